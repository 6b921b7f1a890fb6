/- ZoneHolds: the walk of the law. -/
import Derived.Test.YtilofjbobmeniaaRZCo
import Derived.Test.YtilofjbobmeniaaRZW
namespace Go.Proofs.YtilofjbobmeniaaR
open Go.ChangeShapes Go.WideShapes Go.ChangeAt Go.RowKit
open Zon
set_option linter.unusedVariables false
set_option maxRecDepth 100000
theorem wrongL_met (L : List Con) (a : Nat → Int) : wrongL (metL L a) = 0 := wrongL_all fun x hx => (metL_met L a x hx).1
theorem metL_len (L : List Con) (a : Nat → Int) : (metL L a).length ≤ L.length := List.length_filter_le _ _
theorem ConIn.below {w W : World} {A : Option Addr} {n c : Nat} {L : List Con} (i : ConIn w A n c L) (h : Below w.heap.size w W) : ConIn W A n c L := ⟨i.len, i.reach, i.rng, i.at_.below h, i.cap⟩
theorem NumIn.below {w W : World} {A : Option Addr} {n c : Nat} {L : List Int} (i : NumIn w A n c L) (h : Below w.heap.size w W) : NumIn W A n c L := ⟨i.len, i.reach, i.rng, i.at_.below h, i.cap⟩
theorem wrongOne_any (W : World) (X Y C : Int) : Calls Try.prog 30 #[.slice (some ⟨W.heap.size, 0, none⟩) 1 1] (W.alloc (.cells #[.int .i64 X, .int .i64 Y, .int .i64 C] 49)).drew (fun e w' => e = .returned (.int .i64 (wrong1 ⟨X, Y, C⟩)) ∧ (W.alloc (.cells #[.int .i64 X, .int .i64 Y, .int .i64 C] 49)).drew = w') :=
  (refWrong_any _ (some ⟨W.heap.size, 0, none⟩) 1 1 [⟨X, Y, C⟩] rfl (by omega) ((cons_one W _ X Y C).below (below_drewN' (Below.refl _ _) 1))).mono fun e w' h => ⟨by rw [h.1, wrongL_one], h.2⟩
theorem wrong1_three (x : Con) : wrong1 x = 0 ∨ wrong1 x = 50 ∨ wrong1 x = 51 := by
  unfold wrong1
  split
  · exact .inr (.inl rfl)
  · split
    · exact .inr (.inr rfl)
    · exact .inl rfl
theorem wrongOne_is (W : World) (X Y C e : Int) (h : wrong1 ⟨X, Y, C⟩ = e) : Calls Try.prog 30 #[.slice (some ⟨W.heap.size, 0, none⟩) 1 1] (W.alloc (.cells #[.int .i64 X, .int .i64 Y, .int .i64 C] 49)).drew (fun e' w' => e' = .returned (.int .i64 e) ∧ (W.alloc (.cells #[.int .i64 X, .int .i64 Y, .int .i64 C] 49)).drew = w') := h ▸ wrongOne_any W X Y C
theorem updI_i64 {a : Nat → Int} {x : Nat} {v : Int} (ha : ∀ q, q < 60 → I64 (a q)) (hv : I64 v) : ∀ q, q < 60 → I64 (updI a x v q) := fun q hq => by
  unfold updI; split
  · exact hv
  · exact ha q hq
theorem far_in {a c : Int} (ha : I64 a) (hf : farB a c = false) : I64 (a + c) := by
  unfold farB at hf
  simp only [Bool.or_eq_false_iff, decide_eq_false_iff_not] at hf
  unfold I64 at *
  omega
set_option maxHeartbeats 4000000 in
theorem zoneHolds_walk (w : World) (A0 : Option Addr) (n0 c0 : Nat) (L0 : List Int) (i0 : NumIn w A0 n0 c0 L0) (A1 : Option Addr) (n1 c1 : Nat) (L1 : List Con) (i1 : ConIn w A1 n1 c1 L1) (A2 : Option Addr) (n2 c2 : Nat) (L2 : List Con) (i2 : ConIn w A2 n2 c2 L2) (k0 k1 k2 X Y C : Int) (hX : I64 X) (hY : I64 Y) (hC : I64 C) (A : Option Addr) (n c : Nat) (L : List Int) (i : NumIn w A n c L) (A7 A8 A9 : Option Addr) (n7 c7 n8 c8 n9 c9 : Nat) :
    Calls Try.prog 4 #[.slice A0 n0 c0, .slice A1 n1 c1, .slice A2 n2 c2, .agg #[.int .i64 k0, .int .i64 k1, .int .i64 k2, .int .i64 X, .int .i64 Y, .int .i64 C, .slice A n c, .slice A7 n7 c7, .slice A8 n8 c8, .slice A9 n9 c9]] w (True_ w) := by
  have I0 := Lib.hid i0
  have I1 := Lib.hid i1
  have I2 := Lib.hid i2
  have I := Lib.hid i
  have HX := Lib.hid hX
  have HY := Lib.hid hY
  have HC := Lib.hid hC
  have HI := Lib.hid (show ∀ q, q < 60 → I64 (fullV L0 q) from fun q _ => fullV_i64 i0.rng q)
  have HL1 := Lib.hid (show (metL L1 (fullV L0)).length ≤ 7000000000000 by have := metL_len L1 (fullV L0); have := i1.len; have := i1.reach; omega)
  have HL2 := Lib.hid (show (metL L2 (fullV L0)).length ≤ 7000000000000 by have := metL_len L2 (fullV L0); have := i2.len; have := i2.reach; omega)
  clear i0 i1 i2 i hX hY hC
  obtain ⟨w1, hw1⟩ : ∃ w1, w1 = w.alloc (.cells #[.int .i64 k0, .int .i64 k1, .int .i64 k2, .int .i64 X, .int .i64 Y, .int .i64 C, .slice A n c, .slice A7 n7 c7, .slice A8 n8 c8, .slice A9 n9 c9] 39) := ⟨_, rfl⟩
  have HOP := Lib.hid (show OpAt w1 w.heap.size X Y C (.slice A n c) by rw [hw1]; exact ⟨by simp, by simp [go_sem], by simp [go_sem], by simp [go_sem], by simp [go_sem]⟩)
  have HBx := Lib.hid (show Below w.heap.size w w1 by rw [hw1]; exact below_box w _)
  have HW1 := Lib.hid hw1
  clear hw1
  go_enter Try.func4, Try.ntmps4
  go_upto_region 1 with (fail)
  rw [← HW1.out]
  clear HW1
  obtain ⟨bx, hbx⟩ : ∃ bx, bx = w.heap.size := ⟨_, rfl⟩
  rw [← hbx] at HOP ⊢
  have HBX := Lib.hid hbx
  clear hbx
  have S0 := Lib.hid (show St w w1 [] from (St.start w).up HBx.out)
  clear HBx
  go_wp2_with fail
  go_at_call 19
  refine (full_any _ A0 n0 c0 L0 (I0.out.below S0.out.1)).mono ?_
  rintro e W1 ⟨ga, rfl, hg, hv, hB⟩
  have HVa := Lib.hid hv
  have S1 := Lib.hid (show St w W1 [] from (S0.out.up hB))
  have THOP := Lib.hid (HOP.out.up hB)
  clear HOP
  have HOP := THOP
  clear THOP
  clear hB S0 hg hv
  generalize fullV L0 = a at *
  have HMM := Lib.hid (withZ_meets okT_top (meets_top a) (metL L1 a) (metL_met L1 a))
  have HMC := Lib.hid (closeZ_meets (metL L2 a) (metL_met L2 a))
  obtain ⟨M1, e1, hM1, m1, -⟩ := HMM.out
  have HMN := Lib.hid (withZ_meets hM1 m1 (metL L2 a) (metL_met L2 a))
  obtain ⟨M2, e2, hM2, m2⟩ := HMC.out
  obtain ⟨M3, e3, hM3, m3, hi3⟩ := HMN.out
  clear HMM HMC HMN
  have HINB := Lib.hid (show inZB (some M3) (some M1) = true from inZB_true.mpr hi3)
  have He1 := Lib.hid e1
  have HhM1 := Lib.hid hM1
  have Hm1 := Lib.hid m1
  have He2 := Lib.hid e2
  have HhM2 := Lib.hid hM2
  have Hm2 := Lib.hid m2
  have He3 := Lib.hid e3
  have HhM3 := Lib.hid hM3
  have Hm3 := Lib.hid m3
  clear e1 hM1 m1 e2 hM2 m2 e3 hM3 m3 hi3
  go_wp2_with fail
  go_at_call 14
  refine (New_law _).mono ?_
  rintro e W2 ⟨g0, rfl, hg, hz, hB⟩
  have S2 := Lib.hid (show St w W2 [(g0, some topT)] from (S1.out.up hB).add hz)
  have THOP := Lib.hid (HOP.out.up hB)
  clear HOP
  have HOP := THOP
  clear THOP
  have THVa := Lib.hid (HVa.out.up hB)
  clear HVa
  have HVa := THVa
  clear THVa
  clear hB S1 hz hg
  go_wp2_with fail
  go_at_call 21
  refine (met_any _ A1 n1 c1 L1 (I1.out.below S2.out.1) ga a HVa.out HI.out).mono ?_
  rintro e W3 ⟨Am, nm, cm, rfl, hLm, hcm, hAm, hB⟩
  have HAm2 := Lib.hid hAm
  have HLm2 := Lib.hid hLm
  have S3 := Lib.hid (show St w W3 [(g0, some topT)] from (S2.out.up hB))
  have THOP := Lib.hid (HOP.out.up hB)
  clear HOP
  have HOP := THOP
  clear THOP
  have THVa := Lib.hid (HVa.out.up hB)
  clear HVa
  have HVa := THVa
  clear THVa
  clear hB S2 hLm hcm hAm
  go_wp2_with fail
  go_at_call 20
  refine (cons_law _ Am nm cm (metL L1 a) HLm2.out (by have := HL1.out; have := HLm2.out; omega) HAm2.out).mono ?_
  rintro e W4 ⟨Al3, nl3, cl3, rfl, hL3, hc3, hA3, hB⟩
  have HA3 := Lib.hid hA3
  have HL103 := Lib.hid hL3
  have S4 := Lib.hid (show St w W4 [(g0, some topT)] from (S3.out.up hB))
  have THOP := Lib.hid (HOP.out.up hB)
  clear HOP
  have HOP := THOP
  clear THOP
  have THVa := Lib.hid (HVa.out.up hB)
  clear HVa
  have HVa := THVa
  clear THVa
  clear hB S3 hA3 hL3 hc3
  go_wp2_with fail
  go_at_call 17
  refine (With_law _ g0 (some topT) Al3 nl3 cl3 (metL L1 a) (S4.out.2 (g0, some topT) (by simp)) HL103.out (by have := HL103.out; have := HL1.out; omega) HA3.out (wrongL_met L1 a)).mono ?_
  rintro e W5 ⟨g1, rfl, hz, hB⟩
  rw [He1.out] at hz
  have S5 := Lib.hid (show St w W5 [(g1, some M1), (g0, some topT)] from (S4.out.up hB).add hz)
  have THOP := Lib.hid (HOP.out.up hB)
  clear HOP
  have HOP := THOP
  clear THOP
  have THVa := Lib.hid (HVa.out.up hB)
  clear HVa
  have HVa := THVa
  clear THVa
  clear hB S4 hz HA3 HL103
  go_wp2_with fail
  go_at_call 21
  refine (met_any _ A2 n2 c2 L2 (I2.out.below S5.out.1) ga a HVa.out HI.out).mono ?_
  rintro e W6 ⟨Am, nm, cm, rfl, hLm, hcm, hAm, hB⟩
  have HAm5 := Lib.hid hAm
  have HLm5 := Lib.hid hLm
  have S6 := Lib.hid (show St w W6 [(g1, some M1), (g0, some topT)] from (S5.out.up hB))
  have THOP := Lib.hid (HOP.out.up hB)
  clear HOP
  have HOP := THOP
  clear THOP
  have THVa := Lib.hid (HVa.out.up hB)
  clear HVa
  have HVa := THVa
  clear THVa
  clear hB S5 hLm hcm hAm
  go_wp2_with fail
  go_at_call 20
  refine (cons_law _ Am nm cm (metL L2 a) HLm5.out (by have := HL2.out; have := HLm5.out; omega) HAm5.out).mono ?_
  rintro e W7 ⟨Al6, nl6, cl6, rfl, hL6, hc6, hA6, hB⟩
  have HA6 := Lib.hid hA6
  have HL106 := Lib.hid hL6
  have S7 := Lib.hid (show St w W7 [(g1, some M1), (g0, some topT)] from (S6.out.up hB))
  have THOP := Lib.hid (HOP.out.up hB)
  clear HOP
  have HOP := THOP
  clear THOP
  have THVa := Lib.hid (HVa.out.up hB)
  clear HVa
  have HVa := THVa
  clear THVa
  clear hB S6 hA6 hL6 hc6
  go_wp2_with fail
  go_at_call 22
  refine (Close_law _ Al6 nl6 cl6 (metL L2 a) HL106.out (by have := HL106.out; have := HL2.out; omega) HA6.out (wrongL_met L2 a)).mono ?_
  rintro e W8 ⟨g2, rfl, hz, hB⟩
  rw [He2.out] at hz
  have S8 := Lib.hid (show St w W8 [(g2, some M2), (g1, some M1), (g0, some topT)] from (S7.out.up hB).add hz)
  have THOP := Lib.hid (HOP.out.up hB)
  clear HOP
  have HOP := THOP
  clear THOP
  have THVa := Lib.hid (HVa.out.up hB)
  clear HVa
  have HVa := THVa
  clear THVa
  clear hB S7 hz HA6 HL106
  go_wp2_with fail
  go_at_call 23
  refine (meets_yes _ g1 M1 (S8.out.2 (g1, some M1) (by simp)) ga a HVa.out HI.out Hm1.out).mono ?_
  rintro e W9 ⟨rfl, hB⟩
  have S9 := Lib.hid (show St w W9 [(g2, some M2), (g1, some M1), (g0, some topT)] from (S8.out.up hB))
  have THOP := Lib.hid (HOP.out.up hB)
  clear HOP
  have HOP := THOP
  clear THOP
  have THVa := Lib.hid (HVa.out.up hB)
  clear HVa
  have HVa := THVa
  clear THVa
  clear hB S8
  go_wp2_with fail
  go_at_call 23
  refine (meets_yes _ g2 M2 (S9.out.2 (g2, some M2) (by simp)) ga a HVa.out HI.out Hm2.out).mono ?_
  rintro e W10 ⟨rfl, hB⟩
  have S10 := Lib.hid (show St w W10 [(g2, some M2), (g1, some M1), (g0, some topT)] from (S9.out.up hB))
  have THOP := Lib.hid (HOP.out.up hB)
  clear HOP
  have HOP := THOP
  clear THOP
  have THVa := Lib.hid (HVa.out.up hB)
  clear HVa
  have HVa := THVa
  clear THVa
  clear hB S9
  go_wp2_with fail
  go_at_call 21
  refine (met_any _ A2 n2 c2 L2 (I2.out.below S10.out.1) ga a HVa.out HI.out).mono ?_
  rintro e W11 ⟨Am, nm, cm, rfl, hLm, hcm, hAm, hB⟩
  have HAm10 := Lib.hid hAm
  have HLm10 := Lib.hid hLm
  have S11 := Lib.hid (show St w W11 [(g2, some M2), (g1, some M1), (g0, some topT)] from (S10.out.up hB))
  have THOP := Lib.hid (HOP.out.up hB)
  clear HOP
  have HOP := THOP
  clear THOP
  have THVa := Lib.hid (HVa.out.up hB)
  clear HVa
  have HVa := THVa
  clear THVa
  clear hB S10 hLm hcm hAm
  go_wp2_with fail
  go_at_call 20
  refine (cons_law _ Am nm cm (metL L2 a) HLm10.out (by have := HL2.out; have := HLm10.out; omega) HAm10.out).mono ?_
  rintro e W12 ⟨Al11, nl11, cl11, rfl, hL11, hc11, hA11, hB⟩
  have HA11 := Lib.hid hA11
  have HL111 := Lib.hid hL11
  have S12 := Lib.hid (show St w W12 [(g2, some M2), (g1, some M1), (g0, some topT)] from (S11.out.up hB))
  have THOP := Lib.hid (HOP.out.up hB)
  clear HOP
  have HOP := THOP
  clear THOP
  have THVa := Lib.hid (HVa.out.up hB)
  clear HVa
  have HVa := THVa
  clear THVa
  clear hB S11 hA11 hL11 hc11
  go_wp2_with fail
  go_at_call 17
  refine (With_law _ g1 (some M1) Al11 nl11 cl11 (metL L2 a) (S12.out.2 (g1, some M1) (by simp)) HL111.out (by have := HL111.out; have := HL2.out; omega) HA11.out (wrongL_met L2 a)).mono ?_
  rintro e W13 ⟨g3, rfl, hz, hB⟩
  rw [He3.out] at hz
  have S13 := Lib.hid (show St w W13 [(g3, some M3), (g2, some M2), (g1, some M1), (g0, some topT)] from (S12.out.up hB).add hz)
  have THOP := Lib.hid (HOP.out.up hB)
  clear HOP
  have HOP := THOP
  clear THOP
  have THVa := Lib.hid (HVa.out.up hB)
  clear HVa
  have HVa := THVa
  clear THVa
  clear hB S12 hz HA11 HL111
  go_wp2_with fail
  go_at_call 23
  refine (meets_yes _ g3 M3 (S13.out.2 (g3, some M3) (by simp)) ga a HVa.out HI.out Hm3.out).mono ?_
  rintro e W14 ⟨rfl, hB⟩
  have S14 := Lib.hid (show St w W14 [(g3, some M3), (g2, some M2), (g1, some M1), (g0, some topT)] from (S13.out.up hB))
  have THOP := Lib.hid (HOP.out.up hB)
  clear HOP
  have HOP := THOP
  clear THOP
  have THVa := Lib.hid (HVa.out.up hB)
  clear HVa
  have HVa := THVa
  clear THVa
  clear hB S13
  go_wp2_with fail
  go_at_call 24
  refine (Within_law _ g3 g1 (some M3) (some M1) (S14.out.2 (g3, some M3) (by simp)) (S14.out.2 (g1, some M1) (by simp))).mono ?_
  rintro e W15 ⟨rfl, hB⟩
  rw [HINB.out]
  have S15 := Lib.hid (show St w W15 [(g3, some M3), (g2, some M2), (g1, some M1), (g0, some topT)] from (S14.out.up hB))
  have THOP := Lib.hid (HOP.out.up hB)
  clear HOP
  have HOP := THOP
  clear THOP
  have THVa := Lib.hid (HVa.out.up hB)
  clear HVa
  have HVa := THVa
  clear THVa
  clear hB S14
  go_wp2_with fail
  go_at_call 25
  refine (Join_any _ g1 g2 (some M1) (some M2) (S15.out.2 (g1, some M1) (by simp)) (S15.out.2 (g2, some M2) (by simp))).mono ?_
  rintro e W16 ⟨gj12, rfl, hg, hz, hB⟩
  have S16 := Lib.hid (show St w W16 [(gj12, mergeZ joinT (some M1) (some M2)), (g3, some M3), (g2, some M2), (g1, some M1), (g0, some topT)] from (S15.out.up hB).add hz)
  have THOP := Lib.hid (HOP.out.up hB)
  clear HOP
  have HOP := THOP
  clear THOP
  have THVa := Lib.hid (HVa.out.up hB)
  clear HVa
  have HVa := THVa
  clear THVa
  clear hB S15 hz hg
  go_wp2_with fail
  go_at_call 23
  refine (meets_yes _ gj12 (joinT M1 M2) (S16.out.2 (gj12, mergeZ joinT (some M1) (some M2)) (by simp)) ga a HVa.out HI.out (meets_join Hm1.out HhM1.out HhM2.out)).mono ?_
  rintro e W17 ⟨rfl, hB⟩
  have S17 := Lib.hid (show St w W17 [(gj12, mergeZ joinT (some M1) (some M2)), (g3, some M3), (g2, some M2), (g1, some M1), (g0, some topT)] from (S16.out.up hB))
  have THOP := Lib.hid (HOP.out.up hB)
  clear HOP
  have HOP := THOP
  clear THOP
  have THVa := Lib.hid (HVa.out.up hB)
  clear HVa
  have HVa := THVa
  clear THVa
  clear hB S16
  go_wp2_with fail
  go_at_call 25
  refine (Join_any _ g2 g1 (some M2) (some M1) (S17.out.2 (g2, some M2) (by simp)) (S17.out.2 (g1, some M1) (by simp))).mono ?_
  rintro e W18 ⟨gj21, rfl, hg, hz, hB⟩
  have S18 := Lib.hid (show St w W18 [(gj21, mergeZ joinT (some M2) (some M1)), (gj12, mergeZ joinT (some M1) (some M2)), (g3, some M3), (g2, some M2), (g1, some M1), (g0, some topT)] from (S17.out.up hB).add hz)
  have THOP := Lib.hid (HOP.out.up hB)
  clear HOP
  have HOP := THOP
  clear THOP
  have THVa := Lib.hid (HVa.out.up hB)
  clear HVa
  have HVa := THVa
  clear THVa
  clear hB S17 hz hg
  go_wp2_with fail
  go_at_call 23
  refine (meets_yes _ gj21 (joinT M2 M1) (S18.out.2 (gj21, mergeZ joinT (some M2) (some M1)) (by simp)) ga a HVa.out HI.out (meets_join Hm2.out HhM2.out HhM1.out)).mono ?_
  rintro e W19 ⟨rfl, hB⟩
  have S19 := Lib.hid (show St w W19 [(gj21, mergeZ joinT (some M2) (some M1)), (gj12, mergeZ joinT (some M1) (some M2)), (g3, some M3), (g2, some M2), (g1, some M1), (g0, some topT)] from (S18.out.up hB))
  have THOP := Lib.hid (HOP.out.up hB)
  clear HOP
  have HOP := THOP
  clear THOP
  have THVa := Lib.hid (HVa.out.up hB)
  clear HVa
  have HVa := THVa
  clear THVa
  clear hB S18
  go_wp2_with fail
  go_at_call 26
  refine (Widen_any _ g1 g2 (some M1) (some M2) (S19.out.2 (g1, some M1) (by simp)) (S19.out.2 (g2, some M2) (by simp))).mono ?_
  rintro e W20 ⟨gw12, rfl, hg, hz, hB⟩
  have S20 := Lib.hid (show St w W20 [(gw12, mergeZ keepT (some M1) (some M2)), (gj21, mergeZ joinT (some M2) (some M1)), (gj12, mergeZ joinT (some M1) (some M2)), (g3, some M3), (g2, some M2), (g1, some M1), (g0, some topT)] from (S19.out.up hB).add hz)
  have THOP := Lib.hid (HOP.out.up hB)
  clear HOP
  have HOP := THOP
  clear THOP
  have THVa := Lib.hid (HVa.out.up hB)
  clear HVa
  have HVa := THVa
  clear THVa
  clear hB S19 hz hg
  go_wp2_with fail
  go_at_call 23
  refine (meets_yes _ gw12 (keepT M1 M2) (S20.out.2 (gw12, mergeZ keepT (some M1) (some M2)) (by simp)) ga a HVa.out HI.out (meets_keep Hm1.out)).mono ?_
  rintro e W21 ⟨rfl, hB⟩
  have S21 := Lib.hid (show St w W21 [(gw12, mergeZ keepT (some M1) (some M2)), (gj21, mergeZ joinT (some M2) (some M1)), (gj12, mergeZ joinT (some M1) (some M2)), (g3, some M3), (g2, some M2), (g1, some M1), (g0, some topT)] from (S20.out.up hB))
  have THOP := Lib.hid (HOP.out.up hB)
  clear HOP
  have HOP := THOP
  clear THOP
  have THVa := Lib.hid (HVa.out.up hB)
  clear HVa
  have HVa := THVa
  clear THVa
  clear hB S20
  go_wp2_with fail
  go_at_call 26
  refine (Widen_any _ g2 g1 (some M2) (some M1) (S21.out.2 (g2, some M2) (by simp)) (S21.out.2 (g1, some M1) (by simp))).mono ?_
  rintro e W22 ⟨gw21, rfl, hg, hz, hB⟩
  have S22 := Lib.hid (show St w W22 [(gw21, mergeZ keepT (some M2) (some M1)), (gw12, mergeZ keepT (some M1) (some M2)), (gj21, mergeZ joinT (some M2) (some M1)), (gj12, mergeZ joinT (some M1) (some M2)), (g3, some M3), (g2, some M2), (g1, some M1), (g0, some topT)] from (S21.out.up hB).add hz)
  have THOP := Lib.hid (HOP.out.up hB)
  clear HOP
  have HOP := THOP
  clear THOP
  have THVa := Lib.hid (HVa.out.up hB)
  clear HVa
  have HVa := THVa
  clear THVa
  clear hB S21 hz hg
  go_wp2_with fail
  go_at_call 23
  refine (meets_yes _ gw21 (keepT M2 M1) (S22.out.2 (gw21, mergeZ keepT (some M2) (some M1)) (by simp)) ga a HVa.out HI.out (meets_keep Hm2.out)).mono ?_
  rintro e W23 ⟨rfl, hB⟩
  have S23 := Lib.hid (show St w W23 [(gw21, mergeZ keepT (some M2) (some M1)), (gw12, mergeZ keepT (some M1) (some M2)), (gj21, mergeZ joinT (some M2) (some M1)), (gj12, mergeZ joinT (some M1) (some M2)), (g3, some M3), (g2, some M2), (g1, some M1), (g0, some topT)] from (S22.out.up hB))
  have THOP := Lib.hid (HOP.out.up hB)
  clear HOP
  have HOP := THOP
  clear THOP
  have THVa := Lib.hid (HVa.out.up hB)
  clear HVa
  have HVa := THVa
  clear THVa
  clear hB S22
  have v6 := HOP.out.vs
  go_wp2_with fail
  go_at_call 28
  refine (copyInts_any _ A n c L (I.out.below S23.out.1)).mono ?_
  rintro e W24 ⟨Av, cv, rfl, hAv, hB⟩
  have HAv := Lib.hid hAv
  clear v6
  have S24 := Lib.hid (show St w W24 [(gw21, mergeZ keepT (some M2) (some M1)), (gw12, mergeZ keepT (some M1) (some M2)), (gj21, mergeZ joinT (some M2) (some M1)), (gj12, mergeZ joinT (some M1) (some M2)), (g3, some M3), (g2, some M2), (g1, some M1), (g0, some topT)] from (S23.out.up hB))
  have THOP := Lib.hid (HOP.out.up hB)
  clear HOP
  have HOP := THOP
  clear THOP
  have THVa := Lib.hid (HVa.out.up hB)
  clear HVa
  have HVa := THVa
  clear THVa
  clear hB S23 hAv
  go_wp2_with fail
  go_at_call 27
  refine (Forget_any _ g1 (some M1) Av n cv L (S24.out.2 (g1, some M1) (by simp)) I.out.len (by have := I.out.reach; omega) HAv.out).mono ?_
  rintro e W25 ⟨gf, rfl, hg, hz, hB⟩
  have S25 := Lib.hid (show St w W25 [(gf, some (forgetT M1 L)), (gw21, mergeZ keepT (some M2) (some M1)), (gw12, mergeZ keepT (some M1) (some M2)), (gj21, mergeZ joinT (some M2) (some M1)), (gj12, mergeZ joinT (some M1) (some M2)), (g3, some M3), (g2, some M2), (g1, some M1), (g0, some topT)] from (S24.out.up hB).add hz)
  have THOP := Lib.hid (HOP.out.up hB)
  clear HOP
  have HOP := THOP
  clear THOP
  have THVa := Lib.hid (HVa.out.up hB)
  clear HVa
  have HVa := THVa
  clear THVa
  clear hB S24 hz hg HAv
  have hn : n ≤ 17592186044416 := I.out.reach
  go_wp2_with fail
  go_loopw [16, 17] (fun v i wr => ∃ k : Nat, k ≤ n ∧ i = .int .i64 k ∧ ∃ gb, v = vecV gb ∧ VecAt wr gb (forgetV a (L.take k) C) ∧ Below W25.heap.size W25 wr) (fun _ i _ => (n - intOf i).toNat)
  case atStart => exact ⟨0, by omega, rfl, ga, rfl, HVa.out, Below.refl _ _⟩
  case round =>
    obtain ⟨k, hk, rfl, gb, rfl, hV, hB⟩ := hrel
    have hk0 : (0 : Int) ≤ k := by omega
    have v6 : wr.cell? ⟨bx, 6, none⟩ = some (.slice A n c) := (HOP.out.up hB).vs
    by_cases hlt : k < n
    · have hlt' : (k : Int) < n := by omega
      have v5 : wr.cell? ⟨bx, 5, none⟩ = some (.int .i64 C) := (HOP.out.up hB).c
      obtain ⟨b, off, rfl, hbl, hc⟩ := I.out.at_ (by have := I.out.len; omega)
      obtain ⟨x, hx⟩ : ∃ x, L[k]? = some x := ⟨L[k]'(by have := I.out.len; omega), List.getElem?_eq_getElem _⟩
      have x0 : wr.cell? ⟨b, off + k, none⟩ = some (.int .i64 x) := by
        have hBW := S25.out.1.trans (hB.mono S25.out.1.size)
        exact (hBW.cell (p := ⟨b, off + k, none⟩) hbl).trans (hc k x hx)
      have HFS := Lib.hid (show forgetV a (L.take (k + 1)) C = if renewB x then updI (forgetV a (L.take k) C) x.toNat C else forgetV a (L.take k) C by rw [take_next L k x hx, forgetV_snoc])
      have HVs := Lib.hid hV
      have HBs := Lib.hid hB
      have HLT := Lib.hid hlt
      generalize forgetV a (L.take k) C = bk at *
      clear hV hB hbl hc hx hlt
      cases h1 : decide (1 ≤ x)
      · rw [show renewB x = false by unfold renewB; rw [h1]; rfl] at HFS
        go_wp2_with fail
        go_roundw
        case rel => exact ⟨k + 1, by have := HLT.out; omega, by go_num, gb, rfl, by rw [HFS.out]; exact HVs.out, HBs.out⟩
        case measure => simp [intOf]; have := HLT.out; omega
      · cases h2 : decide (x < 60)
        · rw [show renewB x = false by unfold renewB; rw [h1, h2]; rfl] at HFS
          go_wp2_with fail
          go_roundw
          case rel => exact ⟨k + 1, by have := HLT.out; omega, by go_num, gb, rfl, by rw [HFS.out]; exact HVs.out, HBs.out⟩
          case measure => simp [intOf]; have := HLT.out; omega
        · rw [show renewB x = true by unfold renewB; rw [h1, h2]; rfl] at HFS
          have H1 := Lib.hid (of_decide_eq_true h1)
          have H2 := Lib.hid (of_decide_eq_true h2)
          obtain ⟨nx, rfl⟩ : ∃ nx : Nat, x = nx := ⟨x.toNat, by have := H1.out; omega⟩
          go_upto_region 17 with (fail)
          refine wp_region_tail 8 (by kernel_rfl) (by kernel_rfl) fun W hW => ?_
          simp only [List.take_succ_cons, List.take_zero, List.drop_succ_cons, List.drop_zero]
          have y6 : W.cell? ⟨bx, 6, none⟩ = some (.slice (some ⟨b, off, none⟩) n c) := by rw [hW]; exact v6
          have y5 : W.cell? ⟨bx, 5, none⟩ = some (.int .i64 C) := by rw [hW]; exact v5
          have y0 : W.cell? ⟨b, off + k, none⟩ = some (.int .i64 nx) := by rw [hW]; exact x0
          have HVW := Lib.hid (show VecAt W gb bk by rw [hW]; exact HVs.out.up (below_drewN' (Below.refl _ _) 1))
          have HBW := Lib.hid (show Below W25.heap.size W25 W by rw [hW]; exact below_drewN' HBs.out 1)
          clear hW v5 v6 x0 HVs HBs
          iterate 8 still_step
          refine wpStill_nil ?_
          clear y6 y5 y0
          go_wp2_with fail
          go_at_call 29
          refine (with_any W gb bk nx C HVW.out (by have := H2.out; omega)).mono ?_
          rintro e W' ⟨gb', rfl, hg, hv, hB2⟩
          have HV2 := Lib.hid hv
          have HB2 := Lib.hid (HBW.out.trans (hB2.mono HBW.out.size))
          clear hg hv hB2
          go_wp2_with fail
          go_roundw
          case rel => exact ⟨k + 1, by have := HLT.out; omega, by go_num, gb', rfl, by rw [HFS.out, if_pos trivial]; exact HV2.out, HB2.out⟩
          case measure => simp [intOf]; have := HLT.out; omega
    · obtain rfl : k = n := by omega
      have hjn : decide ((k : Int) < k) = false := decide_eq_false (by omega)
      rw [List.take_of_length_le (by rw [I.out.len]; omega)] at hV
      have HVb := Lib.hid hV
      have S26 := Lib.hid (show St w wr [(gf, some (forgetT M1 L)), (gw21, mergeZ keepT (some M2) (some M1)), (gw12, mergeZ keepT (some M1) (some M2)), (gj21, mergeZ joinT (some M2) (some M1)), (gj12, mergeZ joinT (some M1) (some M2)), (g3, some M3), (g2, some M2), (g1, some M1), (g0, some topT)] from S25.out.up hB)
      have THOP := Lib.hid (HOP.out.up hB)
      clear HOP
      have HOP := THOP
      clear THOP
      have THVa := Lib.hid (HVa.out.up hB)
      clear HVa
      have HVa := THVa
      clear THVa
      clear hV hB S25
      go_wp2_with fail
      go_at_call 23
      refine (meets_yes _ gf (forgetT M1 L) (S26.out.2 (gf, some (forgetT M1 L)) (by simp)) gb (forgetV a L C) HVb.out (forgetV_i64 HI.out HC.out L) (meets_forget HhM1.out Hm1.out L C).2).mono ?_
      rintro e W27 ⟨rfl, hB⟩
      have S27 := Lib.hid (show St w W27 [(gf, some (forgetT M1 L)), (gw21, mergeZ keepT (some M2) (some M1)), (gw12, mergeZ keepT (some M1) (some M2)), (gj21, mergeZ joinT (some M2) (some M1)), (gj12, mergeZ joinT (some M1) (some M2)), (g3, some M3), (g2, some M2), (g1, some M1), (g0, some topT)] from (S26.out.up hB))
      have THOP := Lib.hid (HOP.out.up hB)
      clear HOP
      have HOP := THOP
      clear THOP
      have THVa := Lib.hid (HVa.out.up hB)
      clear HVa
      have HVa := THVa
      clear THVa
      clear hB S26 HVb v6
      go_upto_region 20 with (fail)
      have HOd := Lib.hid (show OpAt W27.drew bx X Y C (.slice A k c) from HOP.out.up (below_drewN' (Below.refl _ _) 1))
      have HVd := Lib.hid (show VecAt W27.drew ga a from HVa.out.up (below_drewN' (Below.refl _ _) 1))
      have HBO := Lib.hid (fun o => show Below W27.heap.size W27 (W27.alloc o).drew from below_drewN' (below_box W27 o) 1)
      have HOA := Lib.hid (fun o => HOP.out.up (HBO.out o))
      have HVA := Lib.hid (fun o => HVa.out.up (HBO.out o))
      have HSA := Lib.hid (fun o => S27.out.up (HBO.out o))
      obtain ⟨y3, y4, y5⟩ : W27.drew.cell? ⟨bx, 3, none⟩ = some (.int .i64 X) ∧ W27.drew.cell? ⟨bx, 4, none⟩ = some (.int .i64 Y) ∧ W27.drew.cell? ⟨bx, 5, none⟩ = some (.int .i64 C) := ⟨HOd.out.x, HOd.out.y, HOd.out.c⟩
      rcases wrong1_three ⟨X, Y, C⟩ with h0 | h0 | h0
      · obtain ⟨⟨g1, g2⟩, ⟨g3, g4⟩, g5⟩ := wrong1_zero h0
        simp only at g1 g2 g3 g4 g5
        have HWR := Lib.hid (fun W => wrongOne_is W X Y C 0 h0)
        have HRC := Lib.hid (show rngB C = true by unfold rngB; simp; omega)
        obtain ⟨ny, rfl⟩ : ∃ ny : Nat, Y = ny := ⟨Y.toNat, by omega⟩
        have hny6 : ny < 60 := by omega
        have hny1 : (ny : Int) < 60 := by omega
        have hny0 : (0 : Int) ≤ ny := by omega
        by_cases hx : X = 0
        · subst hx
          clear h0 g1 g2 g3 g4 g5
          refine wp_region_held_drew (S := (fun W => W.cell? ⟨bx, 3, none⟩ = some (.int .i64 0) ∧ W.cell? ⟨bx, 4, none⟩ = some (.int .i64 ny) ∧ W.cell? ⟨bx, 5, none⟩ = some (.int .i64 C))) (by kernel_rfl) ⟨HOd.out.x, HOd.out.y, HOd.out.c⟩ (fun hHeld => ?_)
          refine wpAnyH_take (i := 0) (oi := { dst := some 149, op := Op.fieldAddr 39 (Operand.tmp 7) 3, type := 0, pos := "law.go:247", after := #[], guard := none }) (v := .pointer (some ⟨bx, 3, none⟩)) rfl (by kernel_rfl) (by kernel_rfl) (by kernel_rfl) (fun _ _ _ h => h) (Or.inl ⟨by rfl, ?_⟩) (by assumption) ?_
          · intro w hSw
            (try dsimp only at hSw)
            go_simp
            all_goals (first | assumption | rfl | (simp; done) | (simp only [*]; done) | omega | (simp; omega))
          try simp only [Act.put, List.setIfInBounds_toArray, List.set_cons_zero, List.set_cons_succ]
          refine wpAnyH_take (i := 1) (oi := { dst := some 150, op := Op.load 3 (Operand.tmp 149), type := 3, pos := "law.go:247", after := #[{ on := 0, ground := Ground.data }], guard := none }) (v := .int .i64 0) rfl (by kernel_rfl) (by kernel_rfl) (by kernel_rfl) (fun _ _ _ h => h) (Or.inl ⟨by rfl, ?_⟩) (by assumption) ?_
          · intro w hSw
            (try dsimp only at hSw)
            go_simp
            all_goals (first | assumption | rfl | (simp; done) | (simp only [*]; done) | omega | (simp; omega))
          try simp only [Act.put, List.setIfInBounds_toArray, List.set_cons_zero, List.set_cons_succ]
          refine wpAnyH_take (i := 2) (oi := { dst := some 151, op := Op.fieldAddr 39 (Operand.tmp 7) 4, type := 0, pos := "law.go:247", after := #[], guard := none }) (v := .pointer (some ⟨bx, 4, none⟩)) rfl (by kernel_rfl) (by kernel_rfl) (by kernel_rfl) (fun _ _ _ h => h) (Or.inl ⟨by rfl, ?_⟩) (by assumption) ?_
          · intro w hSw
            (try dsimp only at hSw)
            go_simp
            all_goals (first | assumption | rfl | (simp; done) | (simp only [*]; done) | omega | (simp; omega))
          try simp only [Act.put, List.setIfInBounds_toArray, List.set_cons_zero, List.set_cons_succ]
          refine wpAnyH_take (i := 3) (oi := { dst := some 152, op := Op.load 3 (Operand.tmp 151), type := 3, pos := "law.go:247", after := #[{ on := 2, ground := Ground.data }], guard := none }) (v := .int .i64 ny) rfl (by kernel_rfl) (by kernel_rfl) (by kernel_rfl) (fun _ _ _ h => h) (Or.inl ⟨by rfl, ?_⟩) (by assumption) ?_
          · intro w hSw
            (try dsimp only at hSw)
            go_simp
            all_goals (first | assumption | rfl | (simp; done) | (simp only [*]; done) | omega | (simp; omega))
          try simp only [Act.put, List.setIfInBounds_toArray, List.set_cons_zero, List.set_cons_succ]
          refine wpAnyH_take (i := 4) (oi := { dst := some 153, op := Op.fieldAddr 39 (Operand.tmp 7) 5, type := 0, pos := "law.go:247", after := #[], guard := none }) (v := .pointer (some ⟨bx, 5, none⟩)) rfl (by kernel_rfl) (by kernel_rfl) (by kernel_rfl) (fun _ _ _ h => h) (Or.inl ⟨by rfl, ?_⟩) (by assumption) ?_
          · intro w hSw
            (try dsimp only at hSw)
            go_simp
            all_goals (first | assumption | rfl | (simp; done) | (simp only [*]; done) | omega | (simp; omega))
          try simp only [Act.put, List.setIfInBounds_toArray, List.set_cons_zero, List.set_cons_succ]
          refine wpAnyH_take (i := 5) (oi := { dst := some 154, op := Op.load 3 (Operand.tmp 153), type := 3, pos := "law.go:247", after := #[{ on := 4, ground := Ground.data }], guard := none }) (v := .int .i64 C) rfl (by kernel_rfl) (by kernel_rfl) (by kernel_rfl) (fun _ _ _ h => h) (Or.inl ⟨by rfl, ?_⟩) (by assumption) ?_
          · intro w hSw
            (try dsimp only at hSw)
            go_simp
            all_goals (first | assumption | rfl | (simp; done) | (simp only [*]; done) | omega | (simp; omega))
          try simp only [Act.put, List.setIfInBounds_toArray, List.set_cons_zero, List.set_cons_succ]
          refine wpAnyH_take (i := 6) (oi := { dst := some 155, op := Op.build 49 #[(0, Operand.tmp 150), (1, Operand.tmp 152), (2, Operand.tmp 154)], type := 49, pos := "law.go:247", after := #[{ on := 1, ground := Ground.data }, { on := 3, ground := Ground.data }, { on := 5, ground := Ground.data }], guard := none }) (v := .agg #[.int .i64 0, .int .i64 ny, .int .i64 C]) rfl (by kernel_rfl) (by kernel_rfl) (by kernel_rfl) (fun _ _ _ h => h) (Or.inl ⟨by rfl, ?_⟩) (by assumption) ?_
          · intro w hSw
            (try dsimp only at hSw)
            go_simp
            all_goals (first | assumption | rfl | (simp; done) | (simp only [*]; done) | omega | (simp; omega))
          try simp only [Act.put, List.setIfInBounds_toArray, List.set_cons_zero, List.set_cons_succ]
          refine wpAnyH_ready (rs := [7]) (by kernel_rfl) (by simp) ?_
          refine AllReadyH.cons (o := { dst := some 156, op := Op.buildSlice 36 1 #[(0, Operand.tmp 155)], type := 36, pos := "law.go:247", after := #[{ on := 6, ground := Ground.data }], guard := none }) rfl (fun K hK => ?_) ?_
          rotate_left
          · exact AllReadyH.nil
          go_simp
          refine hK.out _ _ ?_ (fun hHeld => ?_)
          · (try dsimp only)
            exact ⟨(HOA.out _).x, (HOA.out _).y, (HOA.out _).c⟩
          clear hK K
          try simp only [Act.put, List.setIfInBounds_toArray, List.set_cons_zero, List.set_cons_succ]
          refine wpAnyH_ready (rs := [8]) (by kernel_rfl) (by simp) ?_
          refine AllReadyH.cons (o := { dst := some 157, op := Op.call { callee := Callee.value (Operand.func 30), args := #[Operand.tmp 156], argTypes := #[36] }, type := 3, pos := "law.go:247", after := #[{ on := 7, ground := Ground.data }], guard := none }) rfl (fun K hK => ?_) ?_
          rotate_left
          · exact AllReadyH.nil
          go_simp
          go_at_call 30
          refine (HWR.out _).mono ?_
          rintro e w' ⟨rfl, rfl⟩
          refine hK.out _ _ ?_ (fun hHeld => ?_)
          · (try dsimp only)
            exact ⟨(HOA.out _).x, (HOA.out _).y, (HOA.out _).c⟩
          clear hK K
          try simp only [Act.put, List.setIfInBounds_toArray, List.set_cons_zero, List.set_cons_succ]
          refine wpAnyH_take (i := 9) (oi := { dst := some 158, op := Op.binOp BinOp.neq 3 (Operand.tmp 157) (Operand.const (Value.int IntKind.i64 0)) 3, type := 4, pos := "law.go:247", after := #[{ on := 8, ground := Ground.data }], guard := none }) (v := .bool false) rfl (by kernel_rfl) (by kernel_rfl) (by kernel_rfl) (fun _ _ _ h => h) (Or.inl ⟨by rfl, ?_⟩) (by assumption) ?_
          · intro w hSw
            (try dsimp only at hSw)
            go_simp
            all_goals (first | assumption | rfl | (simp; done) | (simp only [*]; done) | omega | (simp; omega))
          try simp only [Act.put, List.setIfInBounds_toArray, List.set_cons_zero, List.set_cons_succ]
          refine wpAnyH_take (i := 10) (oi := { dst := some 159, op := Op.move (Operand.tmp 158), type := 4, pos := "law.go:247", after := #[{ on := 9, ground := Ground.data }, { on := 8, ground := Ground.chain }], guard := none }) (v := .bool false) rfl (by kernel_rfl) (by kernel_rfl) (by kernel_rfl) (fun _ _ _ h => h) (Or.inl ⟨by rfl, ?_⟩) (by assumption) ?_
          · intro w hSw
            (try dsimp only at hSw)
            go_simp
            all_goals (first | assumption | rfl | (simp; done) | (simp only [*]; done) | omega | (simp; omega))
          try simp only [Act.put, List.setIfInBounds_toArray, List.set_cons_zero, List.set_cons_succ]
          refine wpAnyH_take (i := 11) (oi := { dst := some 160, op := Op.fieldAddr 39 (Operand.tmp 7) 3, type := 0, pos := "law.go:247", after := #[{ on := 10, ground := Ground.guard }], guard := some (10, false) }) (v := .pointer (some ⟨bx, 3, none⟩)) rfl (by kernel_rfl) (by kernel_rfl) (by kernel_rfl) (fun _ _ _ h => h) (Or.inl ⟨by rfl, ?_⟩) (by assumption) ?_
          · intro w hSw
            (try dsimp only at hSw)
            go_simp
            all_goals (first | assumption | rfl | (simp; done) | (simp only [*]; done) | omega | (simp; omega))
          try simp only [Act.put, List.setIfInBounds_toArray, List.set_cons_zero, List.set_cons_succ]
          refine wpAnyH_take (i := 12) (oi := { dst := some 161, op := Op.load 3 (Operand.tmp 160), type := 3, pos := "law.go:247", after := #[{ on := 11, ground := Ground.data }, { on := 10, ground := Ground.guard }], guard := some (10, false) }) (v := .int .i64 0) rfl (by kernel_rfl) (by kernel_rfl) (by kernel_rfl) (fun _ _ _ h => h) (Or.inl ⟨by rfl, ?_⟩) (by assumption) ?_
          · intro w hSw
            (try dsimp only at hSw)
            go_simp
            all_goals (first | assumption | rfl | (simp; done) | (simp only [*]; done) | omega | (simp; omega))
          try simp only [Act.put, List.setIfInBounds_toArray, List.set_cons_zero, List.set_cons_succ]
          refine wpAnyH_take (i := 13) (oi := { dst := some 162, op := Op.binOp BinOp.eql 3 (Operand.tmp 161) (Operand.const (Value.int IntKind.i64 0)) 3, type := 4, pos := "law.go:247", after := #[{ on := 12, ground := Ground.data }, { on := 10, ground := Ground.guard }], guard := some (10, false) }) (v := .bool true) rfl (by kernel_rfl) (by kernel_rfl) (by kernel_rfl) (fun _ _ _ h => h) (Or.inl ⟨by rfl, ?_⟩) (by assumption) ?_
          · intro w hSw
            (try dsimp only at hSw)
            go_simp
            all_goals (first | assumption | rfl | (simp; done) | (simp only [*]; done) | omega | (simp; omega))
          try simp only [Act.put, List.setIfInBounds_toArray, List.set_cons_zero, List.set_cons_succ]
          refine wpAnyH_take (i := 14) (oi := { dst := some 163, op := Op.pick (Operand.tmp 159) (Operand.const (Value.bool true)) (Operand.tmp 162), type := 4, pos := "law.go:247", after := #[{ on := 10, ground := Ground.data }, { on := 13, ground := Ground.data }], guard := none }) (v := .bool true) rfl (by kernel_rfl) (by kernel_rfl) (by kernel_rfl) (fun _ _ _ h => h) (Or.inl ⟨by rfl, ?_⟩) (by assumption) ?_
          · intro w hSw
            (try dsimp only at hSw)
            go_simp
            all_goals (first | assumption | rfl | (simp; done) | (simp only [*]; done) | omega | (simp; omega))
          try simp only [Act.put, List.setIfInBounds_toArray, List.set_cons_zero, List.set_cons_succ]
          refine wpAnyH_take (i := 15) (oi := { dst := some 164, op := Op.move (Operand.tmp 163), type := 4, pos := "law.go:247", after := #[{ on := 14, ground := Ground.data }, { on := 10, ground := Ground.chain }], guard := none }) (v := .bool true) rfl (by kernel_rfl) (by kernel_rfl) (by kernel_rfl) (fun _ _ _ h => h) (Or.inl ⟨by rfl, ?_⟩) (by assumption) ?_
          · intro w hSw
            (try dsimp only at hSw)
            go_simp
            all_goals (first | assumption | rfl | (simp; done) | (simp only [*]; done) | omega | (simp; omega))
          try simp only [Act.put, List.setIfInBounds_toArray, List.set_cons_zero, List.set_cons_succ]
          refine wpAnyH_take (i := 16) (oi := { dst := some 165, op := Op.move (Operand.tmp 9), type := 35, pos := "law.go:247", after := #[{ on := 15, ground := Ground.guard }], guard := some (15, false) }) (v := undef) rfl (by kernel_rfl) (by kernel_rfl) (by kernel_rfl) (fun _ _ _ h => h) (Or.inr ⟨by rfl, rfl⟩) (by assumption) ?_
          try simp only [Act.put, List.setIfInBounds_toArray, List.set_cons_zero, List.set_cons_succ]
          refine wpAnyH_take (i := 17) (oi := { dst := some 166, op := Op.fieldAddr 39 (Operand.tmp 7) 4, type := 0, pos := "law.go:247", after := #[{ on := 15, ground := Ground.guard }], guard := some (15, false) }) (v := undef) rfl (by kernel_rfl) (by kernel_rfl) (by kernel_rfl) (fun _ _ _ h => h) (Or.inr ⟨by rfl, rfl⟩) (by assumption) ?_
          try simp only [Act.put, List.setIfInBounds_toArray, List.set_cons_zero, List.set_cons_succ]
          refine wpAnyH_take (i := 18) (oi := { dst := some 167, op := Op.load 3 (Operand.tmp 166), type := 3, pos := "law.go:247", after := #[{ on := 17, ground := Ground.data }, { on := 15, ground := Ground.guard }], guard := some (15, false) }) (v := undef) rfl (by kernel_rfl) (by kernel_rfl) (by kernel_rfl) (fun _ _ _ h => h) (Or.inr ⟨by rfl, rfl⟩) (by assumption) ?_
          try simp only [Act.put, List.setIfInBounds_toArray, List.set_cons_zero, List.set_cons_succ]
          refine wpAnyH_take (i := 19) (oi := { dst := some 168, op := Op.indexAddr 35 (Operand.tmp 165) (Operand.tmp 167), type := 0, pos := "law.go:247", after := #[{ on := 16, ground := Ground.data }, { on := 18, ground := Ground.data }, { on := 15, ground := Ground.guard }], guard := some (15, false) }) (v := undef) rfl (by kernel_rfl) (by kernel_rfl) (by kernel_rfl) (fun _ _ _ h => h) (Or.inr ⟨by rfl, rfl⟩) (by assumption) ?_
          try simp only [Act.put, List.setIfInBounds_toArray, List.set_cons_zero, List.set_cons_succ]
          refine wpAnyH_take (i := 20) (oi := { dst := some 169, op := Op.load 3 (Operand.tmp 168), type := 3, pos := "law.go:247", after := #[{ on := 19, ground := Ground.data }, { on := 15, ground := Ground.guard }], guard := some (15, false) }) (v := undef) rfl (by kernel_rfl) (by kernel_rfl) (by kernel_rfl) (fun _ _ _ h => h) (Or.inr ⟨by rfl, rfl⟩) (by assumption) ?_
          try simp only [Act.put, List.setIfInBounds_toArray, List.set_cons_zero, List.set_cons_succ]
          refine wpAnyH_take (i := 21) (oi := { dst := some 170, op := Op.fieldAddr 39 (Operand.tmp 7) 5, type := 0, pos := "law.go:247", after := #[{ on := 15, ground := Ground.guard }], guard := some (15, false) }) (v := undef) rfl (by kernel_rfl) (by kernel_rfl) (by kernel_rfl) (fun _ _ _ h => h) (Or.inr ⟨by rfl, rfl⟩) (by assumption) ?_
          try simp only [Act.put, List.setIfInBounds_toArray, List.set_cons_zero, List.set_cons_succ]
          refine wpAnyH_take (i := 22) (oi := { dst := some 171, op := Op.load 3 (Operand.tmp 170), type := 3, pos := "law.go:247", after := #[{ on := 21, ground := Ground.data }, { on := 15, ground := Ground.guard }], guard := some (15, false) }) (v := undef) rfl (by kernel_rfl) (by kernel_rfl) (by kernel_rfl) (fun _ _ _ h => h) (Or.inr ⟨by rfl, rfl⟩) (by assumption) ?_
          try simp only [Act.put, List.setIfInBounds_toArray, List.set_cons_zero, List.set_cons_succ]
          refine wpAnyH_take (i := 23) (oi := { dst := some 172, op := Op.call { callee := Callee.value (Operand.func 31), args := #[Operand.tmp 169, Operand.tmp 171], argTypes := #[3, 3] }, type := 4, pos := "law.go:247", after := #[{ on := 20, ground := Ground.data }, { on := 22, ground := Ground.data }, { on := 15, ground := Ground.chain }, { on := 15, ground := Ground.guard }], guard := some (15, false) }) (v := undef) rfl (by kernel_rfl) (by kernel_rfl) (by kernel_rfl) (fun _ _ _ h => h) (Or.inr ⟨by rfl, rfl⟩) (by assumption) ?_
          try simp only [Act.put, List.setIfInBounds_toArray, List.set_cons_zero, List.set_cons_succ]
          refine wpAnyH_take (i := 24) (oi := { dst := some 173, op := Op.pick (Operand.tmp 164) (Operand.const (Value.bool true)) (Operand.tmp 172), type := 4, pos := "law.go:247", after := #[{ on := 15, ground := Ground.data }, { on := 23, ground := Ground.data }], guard := none }) (v := .bool true) rfl (by kernel_rfl) (by kernel_rfl) (by kernel_rfl) (fun _ _ _ h => h) (Or.inl ⟨by rfl, ?_⟩) (by assumption) ?_
          · intro w hSw
            (try dsimp only at hSw)
            go_simp
            all_goals (first | assumption | rfl | (simp; done) | (simp only [*]; done) | omega | (simp; omega))
          try simp only [Act.put, List.setIfInBounds_toArray, List.set_cons_zero, List.set_cons_succ]
          refine wpAnyH_done (by kernel_rfl) ?_ _
          clear y3 y4 y5
          go_wp2_with fail
          go_at_call 13
          refine (awake_any _).mono ?_
          rintro e WZ ⟨rfl, hB⟩
          have SZ := Lib.hid ((HSA.out _).1.trans (hB.mono (HSA.out _).1.size))
          clear hB
          go_wp2_with fail
          go_ret
          exact ⟨rfl, SZ.out⟩
        · obtain ⟨nx, rfl⟩ : ∃ nx : Nat, X = nx := ⟨X.toNat, by omega⟩
          have hm6 : nx < 60 := by omega
          have hnx : 1 ≤ nx := by omega
          have hnx0 : ¬ nx = 0 := by omega
          have tx2 : (nx == 0) = false := by rw [beq_eq_false_iff_ne]; omega
          clear h0 g1 g2 g3 g4 g5 hx
          have HFA := Lib.hid (fun W => far_any (a ny) C W (HI.out ny hny6) HRC.out)
          have vy : W27.drew.cell? ⟨ga, ny, none⟩ = some (.int .i64 (a ny)) := HVd.out.at_ ny hny6
          cases hf : farB (a ny) C
          · rw [hf] at HFA
            have HFI := Lib.hid (far_in (HI.out ny hny6) hf)
            obtain ⟨Wq, hq⟩ : ∃ Wq, Wq = (W27.alloc (.cells #[.int .i64 nx, .int .i64 ny, .int .i64 C] 49)).drew := ⟨_, rfl⟩
            have HQ := Lib.hid hq
            have HOq := Lib.hid (show OpAt Wq bx nx ny C (.slice A k c) by rw [hq]; exact HOA.out _)
            have HVq := Lib.hid (show VecAt Wq ga a by rw [hq]; exact HVA.out _)
            have HSq := Lib.hid (show St w Wq [(gf, some (forgetT M1 L)), (gw21, mergeZ keepT (some M2) (some M1)), (gw12, mergeZ keepT (some M1) (some M2)), (gj21, mergeZ joinT (some M2) (some M1)), (gj12, mergeZ joinT (some M1) (some M2)), (g3, some M3), (g2, some M2), (g1, some M1), (g0, some topT)] by rw [hq]; exact HSA.out _)
            clear hq
            clear hf
            have tx : ((nx : Int) == 0) = false := by rw [beq_eq_false_iff_ne]; omega
            refine wp_region_held_drew (S := (fun W => W.cell? ⟨bx, 3, none⟩ = some (.int .i64 nx) ∧ W.cell? ⟨bx, 4, none⟩ = some (.int .i64 ny) ∧ W.cell? ⟨bx, 5, none⟩ = some (.int .i64 C) ∧ W.cell? ⟨ga, ny, none⟩ = some (.int .i64 (a ny)))) (by kernel_rfl) ⟨HOd.out.x, HOd.out.y, HOd.out.c, HVd.out.at_ ny hny6⟩ (fun hHeld => ?_)
            refine wpAnyH_take (i := 0) (oi := { dst := some 149, op := Op.fieldAddr 39 (Operand.tmp 7) 3, type := 0, pos := "law.go:247", after := #[], guard := none }) (v := .pointer (some ⟨bx, 3, none⟩)) rfl (by kernel_rfl) (by kernel_rfl) (by kernel_rfl) (fun _ _ _ h => h) (Or.inl ⟨by rfl, ?_⟩) (by assumption) ?_
            · intro w hSw
              (try dsimp only at hSw)
              go_simp
              all_goals (first | assumption | rfl | (simp; done) | (simp only [*]; done) | omega | (simp; omega))
            try simp only [Act.put, List.setIfInBounds_toArray, List.set_cons_zero, List.set_cons_succ]
            refine wpAnyH_take (i := 1) (oi := { dst := some 150, op := Op.load 3 (Operand.tmp 149), type := 3, pos := "law.go:247", after := #[{ on := 0, ground := Ground.data }], guard := none }) (v := .int .i64 nx) rfl (by kernel_rfl) (by kernel_rfl) (by kernel_rfl) (fun _ _ _ h => h) (Or.inl ⟨by rfl, ?_⟩) (by assumption) ?_
            · intro w hSw
              (try dsimp only at hSw)
              go_simp
              all_goals (first | assumption | rfl | (simp; done) | (simp only [*]; done) | omega | (simp; omega))
            try simp only [Act.put, List.setIfInBounds_toArray, List.set_cons_zero, List.set_cons_succ]
            refine wpAnyH_take (i := 2) (oi := { dst := some 151, op := Op.fieldAddr 39 (Operand.tmp 7) 4, type := 0, pos := "law.go:247", after := #[], guard := none }) (v := .pointer (some ⟨bx, 4, none⟩)) rfl (by kernel_rfl) (by kernel_rfl) (by kernel_rfl) (fun _ _ _ h => h) (Or.inl ⟨by rfl, ?_⟩) (by assumption) ?_
            · intro w hSw
              (try dsimp only at hSw)
              go_simp
              all_goals (first | assumption | rfl | (simp; done) | (simp only [*]; done) | omega | (simp; omega))
            try simp only [Act.put, List.setIfInBounds_toArray, List.set_cons_zero, List.set_cons_succ]
            refine wpAnyH_take (i := 3) (oi := { dst := some 152, op := Op.load 3 (Operand.tmp 151), type := 3, pos := "law.go:247", after := #[{ on := 2, ground := Ground.data }], guard := none }) (v := .int .i64 ny) rfl (by kernel_rfl) (by kernel_rfl) (by kernel_rfl) (fun _ _ _ h => h) (Or.inl ⟨by rfl, ?_⟩) (by assumption) ?_
            · intro w hSw
              (try dsimp only at hSw)
              go_simp
              all_goals (first | assumption | rfl | (simp; done) | (simp only [*]; done) | omega | (simp; omega))
            try simp only [Act.put, List.setIfInBounds_toArray, List.set_cons_zero, List.set_cons_succ]
            refine wpAnyH_take (i := 4) (oi := { dst := some 153, op := Op.fieldAddr 39 (Operand.tmp 7) 5, type := 0, pos := "law.go:247", after := #[], guard := none }) (v := .pointer (some ⟨bx, 5, none⟩)) rfl (by kernel_rfl) (by kernel_rfl) (by kernel_rfl) (fun _ _ _ h => h) (Or.inl ⟨by rfl, ?_⟩) (by assumption) ?_
            · intro w hSw
              (try dsimp only at hSw)
              go_simp
              all_goals (first | assumption | rfl | (simp; done) | (simp only [*]; done) | omega | (simp; omega))
            try simp only [Act.put, List.setIfInBounds_toArray, List.set_cons_zero, List.set_cons_succ]
            refine wpAnyH_take (i := 5) (oi := { dst := some 154, op := Op.load 3 (Operand.tmp 153), type := 3, pos := "law.go:247", after := #[{ on := 4, ground := Ground.data }], guard := none }) (v := .int .i64 C) rfl (by kernel_rfl) (by kernel_rfl) (by kernel_rfl) (fun _ _ _ h => h) (Or.inl ⟨by rfl, ?_⟩) (by assumption) ?_
            · intro w hSw
              (try dsimp only at hSw)
              go_simp
              all_goals (first | assumption | rfl | (simp; done) | (simp only [*]; done) | omega | (simp; omega))
            try simp only [Act.put, List.setIfInBounds_toArray, List.set_cons_zero, List.set_cons_succ]
            refine wpAnyH_take (i := 6) (oi := { dst := some 155, op := Op.build 49 #[(0, Operand.tmp 150), (1, Operand.tmp 152), (2, Operand.tmp 154)], type := 49, pos := "law.go:247", after := #[{ on := 1, ground := Ground.data }, { on := 3, ground := Ground.data }, { on := 5, ground := Ground.data }], guard := none }) (v := .agg #[.int .i64 nx, .int .i64 ny, .int .i64 C]) rfl (by kernel_rfl) (by kernel_rfl) (by kernel_rfl) (fun _ _ _ h => h) (Or.inl ⟨by rfl, ?_⟩) (by assumption) ?_
            · intro w hSw
              (try dsimp only at hSw)
              go_simp
              all_goals (first | assumption | rfl | (simp; done) | (simp only [*]; done) | omega | (simp; omega))
            try simp only [Act.put, List.setIfInBounds_toArray, List.set_cons_zero, List.set_cons_succ]
            refine wpAnyH_ready (rs := [7]) (by kernel_rfl) (by simp) ?_
            refine AllReadyH.cons (o := { dst := some 156, op := Op.buildSlice 36 1 #[(0, Operand.tmp 155)], type := 36, pos := "law.go:247", after := #[{ on := 6, ground := Ground.data }], guard := none }) rfl (fun K hK => ?_) ?_
            rotate_left
            · exact AllReadyH.nil
            go_simp
            refine hK.out _ _ ?_ (fun hHeld => ?_)
            · (try dsimp only)
              exact ⟨(HOA.out _).x, (HOA.out _).y, (HOA.out _).c, (HVA.out _).at_ ny hny6⟩
            clear hK K
            try simp only [Act.put, List.setIfInBounds_toArray, List.set_cons_zero, List.set_cons_succ]
            refine wpAnyH_ready (rs := [8]) (by kernel_rfl) (by simp) ?_
            refine AllReadyH.cons (o := { dst := some 157, op := Op.call { callee := Callee.value (Operand.func 30), args := #[Operand.tmp 156], argTypes := #[36] }, type := 3, pos := "law.go:247", after := #[{ on := 7, ground := Ground.data }], guard := none }) rfl (fun K hK => ?_) ?_
            rotate_left
            · exact AllReadyH.nil
            go_simp
            go_at_call 30
            refine (HWR.out _).mono ?_
            rintro e w' ⟨rfl, rfl⟩
            refine hK.out _ _ ?_ (fun hHeld => ?_)
            · (try dsimp only)
              exact ⟨(HOA.out _).x, (HOA.out _).y, (HOA.out _).c, (HVA.out _).at_ ny hny6⟩
            clear hK K
            try simp only [Act.put, List.setIfInBounds_toArray, List.set_cons_zero, List.set_cons_succ]
            refine wpAnyH_take (i := 9) (oi := { dst := some 158, op := Op.binOp BinOp.neq 3 (Operand.tmp 157) (Operand.const (Value.int IntKind.i64 0)) 3, type := 4, pos := "law.go:247", after := #[{ on := 8, ground := Ground.data }], guard := none }) (v := .bool false) rfl (by kernel_rfl) (by kernel_rfl) (by kernel_rfl) (fun _ _ _ h => h) (Or.inl ⟨by rfl, ?_⟩) (by assumption) ?_
            · intro w hSw
              (try dsimp only at hSw)
              go_simp
              all_goals (first | assumption | rfl | (simp; done) | (simp only [*]; done) | omega | (simp; omega))
            try simp only [Act.put, List.setIfInBounds_toArray, List.set_cons_zero, List.set_cons_succ]
            refine wpAnyH_take (i := 10) (oi := { dst := some 159, op := Op.move (Operand.tmp 158), type := 4, pos := "law.go:247", after := #[{ on := 9, ground := Ground.data }, { on := 8, ground := Ground.chain }], guard := none }) (v := .bool false) rfl (by kernel_rfl) (by kernel_rfl) (by kernel_rfl) (fun _ _ _ h => h) (Or.inl ⟨by rfl, ?_⟩) (by assumption) ?_
            · intro w hSw
              (try dsimp only at hSw)
              go_simp
              all_goals (first | assumption | rfl | (simp; done) | (simp only [*]; done) | omega | (simp; omega))
            try simp only [Act.put, List.setIfInBounds_toArray, List.set_cons_zero, List.set_cons_succ]
            refine wpAnyH_take (i := 11) (oi := { dst := some 160, op := Op.fieldAddr 39 (Operand.tmp 7) 3, type := 0, pos := "law.go:247", after := #[{ on := 10, ground := Ground.guard }], guard := some (10, false) }) (v := .pointer (some ⟨bx, 3, none⟩)) rfl (by kernel_rfl) (by kernel_rfl) (by kernel_rfl) (fun _ _ _ h => h) (Or.inl ⟨by rfl, ?_⟩) (by assumption) ?_
            · intro w hSw
              (try dsimp only at hSw)
              go_simp
              all_goals (first | assumption | rfl | (simp; done) | (simp only [*]; done) | omega | (simp; omega))
            try simp only [Act.put, List.setIfInBounds_toArray, List.set_cons_zero, List.set_cons_succ]
            refine wpAnyH_take (i := 12) (oi := { dst := some 161, op := Op.load 3 (Operand.tmp 160), type := 3, pos := "law.go:247", after := #[{ on := 11, ground := Ground.data }, { on := 10, ground := Ground.guard }], guard := some (10, false) }) (v := .int .i64 nx) rfl (by kernel_rfl) (by kernel_rfl) (by kernel_rfl) (fun _ _ _ h => h) (Or.inl ⟨by rfl, ?_⟩) (by assumption) ?_
            · intro w hSw
              (try dsimp only at hSw)
              go_simp
              all_goals (first | assumption | rfl | (simp; done) | (simp only [*]; done) | omega | (simp; omega))
            try simp only [Act.put, List.setIfInBounds_toArray, List.set_cons_zero, List.set_cons_succ]
            refine wpAnyH_take (i := 13) (oi := { dst := some 162, op := Op.binOp BinOp.eql 3 (Operand.tmp 161) (Operand.const (Value.int IntKind.i64 0)) 3, type := 4, pos := "law.go:247", after := #[{ on := 12, ground := Ground.data }, { on := 10, ground := Ground.guard }], guard := some (10, false) }) (v := .bool false) rfl (by kernel_rfl) (by kernel_rfl) (by kernel_rfl) (fun _ _ _ h => h) (Or.inl ⟨by rfl, ?_⟩) (by assumption) ?_
            · intro w hSw
              (try dsimp only at hSw)
              go_simp
              all_goals (first | assumption | rfl | (simp; done) | (simp only [*]; done) | omega | (simp; omega))
            try simp only [Act.put, List.setIfInBounds_toArray, List.set_cons_zero, List.set_cons_succ]
            refine wpAnyH_take (i := 14) (oi := { dst := some 163, op := Op.pick (Operand.tmp 159) (Operand.const (Value.bool true)) (Operand.tmp 162), type := 4, pos := "law.go:247", after := #[{ on := 10, ground := Ground.data }, { on := 13, ground := Ground.data }], guard := none }) (v := .bool false) rfl (by kernel_rfl) (by kernel_rfl) (by kernel_rfl) (fun _ _ _ h => h) (Or.inl ⟨by rfl, ?_⟩) (by assumption) ?_
            · intro w hSw
              (try dsimp only at hSw)
              go_simp
              all_goals (first | assumption | rfl | (simp; done) | (simp only [*]; done) | omega | (simp; omega))
            try simp only [Act.put, List.setIfInBounds_toArray, List.set_cons_zero, List.set_cons_succ]
            refine wpAnyH_take (i := 15) (oi := { dst := some 164, op := Op.move (Operand.tmp 163), type := 4, pos := "law.go:247", after := #[{ on := 14, ground := Ground.data }, { on := 10, ground := Ground.chain }], guard := none }) (v := .bool false) rfl (by kernel_rfl) (by kernel_rfl) (by kernel_rfl) (fun _ _ _ h => h) (Or.inl ⟨by rfl, ?_⟩) (by assumption) ?_
            · intro w hSw
              (try dsimp only at hSw)
              go_simp
              all_goals (first | assumption | rfl | (simp; done) | (simp only [*]; done) | omega | (simp; omega))
            try simp only [Act.put, List.setIfInBounds_toArray, List.set_cons_zero, List.set_cons_succ]
            refine wpAnyH_take (i := 16) (oi := { dst := some 165, op := Op.move (Operand.tmp 9), type := 35, pos := "law.go:247", after := #[{ on := 15, ground := Ground.guard }], guard := some (15, false) }) (v := vecV ga) rfl (by kernel_rfl) (by kernel_rfl) (by kernel_rfl) (fun _ _ _ h => h) (Or.inl ⟨by rfl, ?_⟩) (by assumption) ?_
            · intro w hSw
              (try dsimp only at hSw)
              go_simp
              all_goals (first | assumption | rfl | (simp; done) | (simp only [*]; done) | omega | (simp; omega))
            try simp only [Act.put, List.setIfInBounds_toArray, List.set_cons_zero, List.set_cons_succ]
            refine wpAnyH_take (i := 17) (oi := { dst := some 166, op := Op.fieldAddr 39 (Operand.tmp 7) 4, type := 0, pos := "law.go:247", after := #[{ on := 15, ground := Ground.guard }], guard := some (15, false) }) (v := .pointer (some ⟨bx, 4, none⟩)) rfl (by kernel_rfl) (by kernel_rfl) (by kernel_rfl) (fun _ _ _ h => h) (Or.inl ⟨by rfl, ?_⟩) (by assumption) ?_
            · intro w hSw
              (try dsimp only at hSw)
              go_simp
              all_goals (first | assumption | rfl | (simp; done) | (simp only [*]; done) | omega | (simp; omega))
            try simp only [Act.put, List.setIfInBounds_toArray, List.set_cons_zero, List.set_cons_succ]
            refine wpAnyH_take (i := 18) (oi := { dst := some 167, op := Op.load 3 (Operand.tmp 166), type := 3, pos := "law.go:247", after := #[{ on := 17, ground := Ground.data }, { on := 15, ground := Ground.guard }], guard := some (15, false) }) (v := .int .i64 ny) rfl (by kernel_rfl) (by kernel_rfl) (by kernel_rfl) (fun _ _ _ h => h) (Or.inl ⟨by rfl, ?_⟩) (by assumption) ?_
            · intro w hSw
              (try dsimp only at hSw)
              go_simp
              all_goals (first | assumption | rfl | (simp; done) | (simp only [*]; done) | omega | (simp; omega))
            try simp only [Act.put, List.setIfInBounds_toArray, List.set_cons_zero, List.set_cons_succ]
            refine wpAnyH_take (i := 19) (oi := { dst := some 168, op := Op.indexAddr 35 (Operand.tmp 165) (Operand.tmp 167), type := 0, pos := "law.go:247", after := #[{ on := 16, ground := Ground.data }, { on := 18, ground := Ground.data }, { on := 15, ground := Ground.guard }], guard := some (15, false) }) (v := .pointer (some ⟨ga, ny, none⟩)) rfl (by kernel_rfl) (by kernel_rfl) (by kernel_rfl) (fun _ _ _ h => h) (Or.inl ⟨by rfl, ?_⟩) (by assumption) ?_
            · intro w hSw
              (try dsimp only at hSw)
              go_simp
              all_goals (first | assumption | rfl | (simp; done) | (simp only [*]; done) | omega | (simp; omega))
            try simp only [Act.put, List.setIfInBounds_toArray, List.set_cons_zero, List.set_cons_succ]
            refine wpAnyH_take (i := 20) (oi := { dst := some 169, op := Op.load 3 (Operand.tmp 168), type := 3, pos := "law.go:247", after := #[{ on := 19, ground := Ground.data }, { on := 15, ground := Ground.guard }], guard := some (15, false) }) (v := .int .i64 (a ny)) rfl (by kernel_rfl) (by kernel_rfl) (by kernel_rfl) (fun _ _ _ h => h) (Or.inl ⟨by rfl, ?_⟩) (by assumption) ?_
            · intro w hSw
              (try dsimp only at hSw)
              go_simp
              all_goals (first | assumption | rfl | (simp; done) | (simp only [*]; done) | omega | (simp; omega))
            try simp only [Act.put, List.setIfInBounds_toArray, List.set_cons_zero, List.set_cons_succ]
            refine wpAnyH_take (i := 21) (oi := { dst := some 170, op := Op.fieldAddr 39 (Operand.tmp 7) 5, type := 0, pos := "law.go:247", after := #[{ on := 15, ground := Ground.guard }], guard := some (15, false) }) (v := .pointer (some ⟨bx, 5, none⟩)) rfl (by kernel_rfl) (by kernel_rfl) (by kernel_rfl) (fun _ _ _ h => h) (Or.inl ⟨by rfl, ?_⟩) (by assumption) ?_
            · intro w hSw
              (try dsimp only at hSw)
              go_simp
              all_goals (first | assumption | rfl | (simp; done) | (simp only [*]; done) | omega | (simp; omega))
            try simp only [Act.put, List.setIfInBounds_toArray, List.set_cons_zero, List.set_cons_succ]
            refine wpAnyH_take (i := 22) (oi := { dst := some 171, op := Op.load 3 (Operand.tmp 170), type := 3, pos := "law.go:247", after := #[{ on := 21, ground := Ground.data }, { on := 15, ground := Ground.guard }], guard := some (15, false) }) (v := .int .i64 C) rfl (by kernel_rfl) (by kernel_rfl) (by kernel_rfl) (fun _ _ _ h => h) (Or.inl ⟨by rfl, ?_⟩) (by assumption) ?_
            · intro w hSw
              (try dsimp only at hSw)
              go_simp
              all_goals (first | assumption | rfl | (simp; done) | (simp only [*]; done) | omega | (simp; omega))
            try simp only [Act.put, List.setIfInBounds_toArray, List.set_cons_zero, List.set_cons_succ]
            refine wpAnyH_ready (rs := [23]) (by kernel_rfl) (by simp) ?_
            refine AllReadyH.cons (o := { dst := some 172, op := Op.call { callee := Callee.value (Operand.func 31), args := #[Operand.tmp 169, Operand.tmp 171], argTypes := #[3, 3] }, type := 4, pos := "law.go:247", after := #[{ on := 20, ground := Ground.data }, { on := 22, ground := Ground.data }, { on := 15, ground := Ground.chain }, { on := 15, ground := Ground.guard }], guard := some (15, false) }) rfl (fun K hK => ?_) ?_
            rotate_left
            · exact AllReadyH.nil
            go_simp
            go_at_call 31
            refine (HFA.out _).mono ?_
            rintro e w' ⟨rfl, rfl⟩
            refine hK.out _ _ ?_ (fun hHeld => ?_)
            · (try dsimp only)
              exact ⟨(HOA.out _).x, (HOA.out _).y, (HOA.out _).c, (HVA.out _).at_ ny hny6⟩
            clear hK K
            try simp only [Act.put, List.setIfInBounds_toArray, List.set_cons_zero, List.set_cons_succ]
            refine wpAnyH_take (i := 24) (oi := { dst := some 173, op := Op.pick (Operand.tmp 164) (Operand.const (Value.bool true)) (Operand.tmp 172), type := 4, pos := "law.go:247", after := #[{ on := 15, ground := Ground.data }, { on := 23, ground := Ground.data }], guard := none }) (v := .bool false) rfl (by kernel_rfl) (by kernel_rfl) (by kernel_rfl) (fun _ _ _ h => h) (Or.inl ⟨by rfl, ?_⟩) (by assumption) ?_
            · intro w hSw
              (try dsimp only at hSw)
              go_simp
              all_goals (first | assumption | rfl | (simp; done) | (simp only [*]; done) | omega | (simp; omega))
            try simp only [Act.put, List.setIfInBounds_toArray, List.set_cons_zero, List.set_cons_succ]
            refine wpAnyH_done (by kernel_rfl) ?_ _
            clear vy
            rw [← HQ.out]
            clear y3 y4 y5 HOd HVd HOA HVA HSA HBO HQ HWR HFA
            have q3 := HOq.out.x
            have q4 := HOq.out.y
            have q5 := HOq.out.c
            go_wp2_with fail
            go_at_call 32
            refine (Assign_law Wq g1 (some M1) nx ny C (HSq.out.2 (g1, some M1) (by simp)) hm6 hnx hny6 HRC.out).mono ?_
            rintro e Wr ⟨gt, rfl, hz, hB⟩
            have HZt := Lib.hid (show ZoneAt Wr gt (some (assignT M1 nx ny C)) from hz)
            have HOr := Lib.hid (HOq.out.up hB)
            have HVr := Lib.hid (HVq.out.up hB)
            have HBr := Lib.hid (HSq.out.1.trans (hB.mono HSq.out.1.size))
            clear hz hB q3 q4 q5 HOq HVq HSq
            go_upto_region 23 with (fail)
            have HOs := Lib.hid (HOr.out.up (below_drewN' (Below.refl _ _) 1))
            have HVs := Lib.hid (HVr.out.up (below_drewN' (Below.refl _ _) 1))
            have HZs := Lib.hid (HZt.out.up (below_drewN' (Below.refl _ _) 1))
            have HBs := Lib.hid (below_drewN' HBr.out 1)
            obtain ⟨b1, b2⟩ : -9223372036854775808 ≤ a ny + C ∧ a ny + C ≤ 9223372036854775807 := HFI.out
            have hw : IntKind.i64.wrap (a ny + C) = a ny + C := IntWalk.i64_in _ (by omega)
            refine wp_region_held_drew (S := (fun W => W.cell? ⟨bx, 3, none⟩ = some (.int .i64 nx) ∧ W.cell? ⟨bx, 4, none⟩ = some (.int .i64 ny) ∧ W.cell? ⟨bx, 5, none⟩ = some (.int .i64 C) ∧ W.cell? ⟨ga, ny, none⟩ = some (.int .i64 (a ny)))) (by kernel_rfl) ⟨HOs.out.x, HOs.out.y, HOs.out.c, HVs.out.at_ ny hny6⟩ (fun hHeld => ?_)
            refine wpAnyH_take (i := 0) (oi := { dst := some 186, op := Op.move (Operand.tmp 11), type := 30, pos := "law.go:251", after := #[], guard := none }) (v := .int .i64 0) rfl (by kernel_rfl) (by kernel_rfl) (by kernel_rfl) (fun _ _ _ h => h) (Or.inl ⟨by rfl, ?_⟩) (by assumption) ?_
            · intro w hSw
              (try dsimp only at hSw)
              go_simp
              all_goals (first | assumption | rfl | (simp; done) | (simp only [*]; done) | omega | (simp; omega))
            try simp only [Act.put, List.setIfInBounds_toArray, List.set_cons_zero, List.set_cons_succ]
            refine wpAnyH_take (i := 1) (oi := { dst := some 187, op := Op.binOp BinOp.eql 30 (Operand.tmp 186) (Operand.const (Value.int IntKind.i64 0)) 30, type := 4, pos := "law.go:251", after := #[{ on := 0, ground := Ground.data }], guard := none }) (v := .bool true) rfl (by kernel_rfl) (by kernel_rfl) (by kernel_rfl) (fun _ _ _ h => h) (Or.inl ⟨by rfl, ?_⟩) (by assumption) ?_
            · intro w hSw
              (try dsimp only at hSw)
              go_simp
              all_goals (first | assumption | rfl | (simp; done) | (simp only [*]; done) | omega | (simp; omega))
            try simp only [Act.put, List.setIfInBounds_toArray, List.set_cons_zero, List.set_cons_succ]
            refine wpAnyH_take (i := 2) (oi := { dst := some 188, op := Op.move (Operand.tmp 187), type := 4, pos := "law.go:251", after := #[{ on := 1, ground := Ground.data }], guard := none }) (v := .bool true) rfl (by kernel_rfl) (by kernel_rfl) (by kernel_rfl) (fun _ _ _ h => h) (Or.inl ⟨by rfl, ?_⟩) (by assumption) ?_
            · intro w hSw
              (try dsimp only at hSw)
              go_simp
              all_goals (first | assumption | rfl | (simp; done) | (simp only [*]; done) | omega | (simp; omega))
            try simp only [Act.put, List.setIfInBounds_toArray, List.set_cons_zero, List.set_cons_succ]
            refine wpAnyH_take (i := 3) (oi := { dst := some 189, op := Op.move (Operand.tmp 18), type := 24, pos := "law.go:251", after := #[{ on := 2, ground := Ground.guard }], guard := some (2, true) }) (v := .pointer (some ⟨gt, 0, none⟩)) rfl (by kernel_rfl) (by kernel_rfl) (by kernel_rfl) (fun _ _ _ h => h) (Or.inl ⟨by rfl, ?_⟩) (by assumption) ?_
            · intro w hSw
              (try dsimp only at hSw)
              go_simp
              all_goals (first | assumption | rfl | (simp; done) | (simp only [*]; done) | omega | (simp; omega))
            try simp only [Act.put, List.setIfInBounds_toArray, List.set_cons_zero, List.set_cons_succ]
            refine wpAnyH_take (i := 4) (oi := { dst := some 190, op := Op.move (Operand.tmp 9), type := 35, pos := "law.go:251", after := #[{ on := 2, ground := Ground.guard }], guard := some (2, true) }) (v := vecV ga) rfl (by kernel_rfl) (by kernel_rfl) (by kernel_rfl) (fun _ _ _ h => h) (Or.inl ⟨by rfl, ?_⟩) (by assumption) ?_
            · intro w hSw
              (try dsimp only at hSw)
              go_simp
              all_goals (first | assumption | rfl | (simp; done) | (simp only [*]; done) | omega | (simp; omega))
            try simp only [Act.put, List.setIfInBounds_toArray, List.set_cons_zero, List.set_cons_succ]
            refine wpAnyH_take (i := 5) (oi := { dst := some 191, op := Op.fieldAddr 39 (Operand.tmp 7) 3, type := 0, pos := "law.go:251", after := #[{ on := 2, ground := Ground.guard }], guard := some (2, true) }) (v := .pointer (some ⟨bx, 3, none⟩)) rfl (by kernel_rfl) (by kernel_rfl) (by kernel_rfl) (fun _ _ _ h => h) (Or.inl ⟨by rfl, ?_⟩) (by assumption) ?_
            · intro w hSw
              (try dsimp only at hSw)
              go_simp
              all_goals (first | assumption | rfl | (simp; done) | (simp only [*]; done) | omega | (simp; omega))
            try simp only [Act.put, List.setIfInBounds_toArray, List.set_cons_zero, List.set_cons_succ]
            refine wpAnyH_take (i := 6) (oi := { dst := some 192, op := Op.load 3 (Operand.tmp 191), type := 3, pos := "law.go:251", after := #[{ on := 5, ground := Ground.data }, { on := 2, ground := Ground.guard }], guard := some (2, true) }) (v := .int .i64 nx) rfl (by kernel_rfl) (by kernel_rfl) (by kernel_rfl) (fun _ _ _ h => h) (Or.inl ⟨by rfl, ?_⟩) (by assumption) ?_
            · intro w hSw
              (try dsimp only at hSw)
              go_simp
              all_goals (first | assumption | rfl | (simp; done) | (simp only [*]; done) | omega | (simp; omega))
            try simp only [Act.put, List.setIfInBounds_toArray, List.set_cons_zero, List.set_cons_succ]
            refine wpAnyH_take (i := 7) (oi := { dst := some 193, op := Op.move (Operand.tmp 9), type := 35, pos := "law.go:251", after := #[{ on := 2, ground := Ground.guard }], guard := some (2, true) }) (v := vecV ga) rfl (by kernel_rfl) (by kernel_rfl) (by kernel_rfl) (fun _ _ _ h => h) (Or.inl ⟨by rfl, ?_⟩) (by assumption) ?_
            · intro w hSw
              (try dsimp only at hSw)
              go_simp
              all_goals (first | assumption | rfl | (simp; done) | (simp only [*]; done) | omega | (simp; omega))
            try simp only [Act.put, List.setIfInBounds_toArray, List.set_cons_zero, List.set_cons_succ]
            refine wpAnyH_take (i := 8) (oi := { dst := some 194, op := Op.fieldAddr 39 (Operand.tmp 7) 4, type := 0, pos := "law.go:251", after := #[{ on := 2, ground := Ground.guard }], guard := some (2, true) }) (v := .pointer (some ⟨bx, 4, none⟩)) rfl (by kernel_rfl) (by kernel_rfl) (by kernel_rfl) (fun _ _ _ h => h) (Or.inl ⟨by rfl, ?_⟩) (by assumption) ?_
            · intro w hSw
              (try dsimp only at hSw)
              go_simp
              all_goals (first | assumption | rfl | (simp; done) | (simp only [*]; done) | omega | (simp; omega))
            try simp only [Act.put, List.setIfInBounds_toArray, List.set_cons_zero, List.set_cons_succ]
            refine wpAnyH_take (i := 9) (oi := { dst := some 195, op := Op.load 3 (Operand.tmp 194), type := 3, pos := "law.go:251", after := #[{ on := 8, ground := Ground.data }, { on := 2, ground := Ground.guard }], guard := some (2, true) }) (v := .int .i64 ny) rfl (by kernel_rfl) (by kernel_rfl) (by kernel_rfl) (fun _ _ _ h => h) (Or.inl ⟨by rfl, ?_⟩) (by assumption) ?_
            · intro w hSw
              (try dsimp only at hSw)
              go_simp
              all_goals (first | assumption | rfl | (simp; done) | (simp only [*]; done) | omega | (simp; omega))
            try simp only [Act.put, List.setIfInBounds_toArray, List.set_cons_zero, List.set_cons_succ]
            refine wpAnyH_take (i := 10) (oi := { dst := some 196, op := Op.indexAddr 35 (Operand.tmp 193) (Operand.tmp 195), type := 0, pos := "law.go:251", after := #[{ on := 7, ground := Ground.data }, { on := 9, ground := Ground.data }, { on := 2, ground := Ground.guard }], guard := some (2, true) }) (v := .pointer (some ⟨ga, ny, none⟩)) rfl (by kernel_rfl) (by kernel_rfl) (by kernel_rfl) (fun _ _ _ h => h) (Or.inl ⟨by rfl, ?_⟩) (by assumption) ?_
            · intro w hSw
              (try dsimp only at hSw)
              go_simp
              all_goals (first | assumption | rfl | (simp; done) | (simp only [*]; done) | omega | (simp; omega))
            try simp only [Act.put, List.setIfInBounds_toArray, List.set_cons_zero, List.set_cons_succ]
            refine wpAnyH_take (i := 11) (oi := { dst := some 197, op := Op.load 3 (Operand.tmp 196), type := 3, pos := "law.go:251", after := #[{ on := 10, ground := Ground.data }, { on := 2, ground := Ground.guard }], guard := some (2, true) }) (v := .int .i64 (a ny)) rfl (by kernel_rfl) (by kernel_rfl) (by kernel_rfl) (fun _ _ _ h => h) (Or.inl ⟨by rfl, ?_⟩) (by assumption) ?_
            · intro w hSw
              (try dsimp only at hSw)
              go_simp
              all_goals (first | assumption | rfl | (simp; done) | (simp only [*]; done) | omega | (simp; omega))
            try simp only [Act.put, List.setIfInBounds_toArray, List.set_cons_zero, List.set_cons_succ]
            refine wpAnyH_take (i := 12) (oi := { dst := some 198, op := Op.fieldAddr 39 (Operand.tmp 7) 5, type := 0, pos := "law.go:251", after := #[{ on := 2, ground := Ground.guard }], guard := some (2, true) }) (v := .pointer (some ⟨bx, 5, none⟩)) rfl (by kernel_rfl) (by kernel_rfl) (by kernel_rfl) (fun _ _ _ h => h) (Or.inl ⟨by rfl, ?_⟩) (by assumption) ?_
            · intro w hSw
              (try dsimp only at hSw)
              go_simp
              all_goals (first | assumption | rfl | (simp; done) | (simp only [*]; done) | omega | (simp; omega))
            try simp only [Act.put, List.setIfInBounds_toArray, List.set_cons_zero, List.set_cons_succ]
            refine wpAnyH_take (i := 13) (oi := { dst := some 199, op := Op.load 3 (Operand.tmp 198), type := 3, pos := "law.go:251", after := #[{ on := 12, ground := Ground.data }, { on := 2, ground := Ground.guard }], guard := some (2, true) }) (v := .int .i64 C) rfl (by kernel_rfl) (by kernel_rfl) (by kernel_rfl) (fun _ _ _ h => h) (Or.inl ⟨by rfl, ?_⟩) (by assumption) ?_
            · intro w hSw
              (try dsimp only at hSw)
              go_simp
              all_goals (first | assumption | rfl | (simp; done) | (simp only [*]; done) | omega | (simp; omega))
            try simp only [Act.put, List.setIfInBounds_toArray, List.set_cons_zero, List.set_cons_succ]
            refine wpAnyH_take (i := 14) (oi := { dst := some 200, op := Op.binOp BinOp.add 3 (Operand.tmp 197) (Operand.tmp 199) 3, type := 3, pos := "law.go:251", after := #[{ on := 11, ground := Ground.data }, { on := 13, ground := Ground.data }, { on := 2, ground := Ground.guard }], guard := some (2, true) }) (v := .int .i64 (a ny + C)) rfl (by kernel_rfl) (by kernel_rfl) (by kernel_rfl) (fun _ _ _ h => h) (Or.inl ⟨by rfl, ?_⟩) (by assumption) ?_
            · intro w hSw
              (try dsimp only at hSw)
              go_simp
              all_goals (first | assumption | rfl | (simp; done) | (simp only [*]; done) | omega | (simp; omega))
            try simp only [Act.put, List.setIfInBounds_toArray, List.set_cons_zero, List.set_cons_succ]
            clear hw
            refine wpAnyH_ready (rs := [15]) (by kernel_rfl) (by simp) ?_
            refine AllReadyH.cons (o := { dst := some 201, op := Op.call { callee := Callee.value (Operand.func 29), args := #[Operand.tmp 190, Operand.tmp 192, Operand.tmp 200], argTypes := #[35, 3, 3] }, type := 35, pos := "law.go:251", after := #[{ on := 4, ground := Ground.data }, { on := 6, ground := Ground.data }, { on := 14, ground := Ground.data }, { on := 2, ground := Ground.chain }, { on := 2, ground := Ground.guard }], guard := some (2, true) }) rfl (fun K hK => ?_) ?_
            rotate_left
            · exact AllReadyH.nil
            go_simp
            go_at_call 29
            refine (with_any _ ga a nx (a ny + C) HVs.out hm6).mono ?_
            rintro e Wu ⟨gv, rfl, hg, hv, hB⟩
            have HVn := Lib.hid hv
            have HOu := Lib.hid (HOs.out.up hB)
            have HVu := Lib.hid (HVs.out.up hB)
            have HZu := Lib.hid (HZs.out.up hB)
            have HBu := Lib.hid (HBs.out.trans (hB.mono HBs.out.size))
            clear hg hv hB
            refine hK.out _ _ ?_ (fun hHeld => ?_)
            · (try dsimp only)
              exact ⟨HOu.out.x, HOu.out.y, HOu.out.c, HVu.out.at_ ny hny6⟩
            clear hK K
            try simp only [Act.put, List.setIfInBounds_toArray, List.set_cons_zero, List.set_cons_succ]
            refine wpAnyH_ready (rs := [16]) (by kernel_rfl) (by simp) ?_
            refine AllReadyH.cons (o := { dst := some 202, op := Op.call { callee := Callee.value (Operand.func 23), args := #[Operand.tmp 189, Operand.tmp 201], argTypes := #[24, 35] }, type := 4, pos := "law.go:251", after := #[{ on := 3, ground := Ground.data }, { on := 15, ground := Ground.data }, { on := 15, ground := Ground.chain }, { on := 2, ground := Ground.guard }], guard := some (2, true) }) rfl (fun K hK => ?_) ?_
            rotate_left
            · exact AllReadyH.nil
            go_simp
            go_at_call 23
            refine (meets_yes _ gt (assignT M1 nx ny C) HZu.out gv (updI a nx (a ny + C)) HVn.out (updI_i64 HI.out HFI.out) (meets_assign HhM1.out Hm1.out hm6 hny6 HRC.out)).mono ?_
            rintro e Wv ⟨rfl, hB⟩
            have HOv := Lib.hid (HOu.out.up hB)
            have HVv := Lib.hid (HVu.out.up hB)
            have HZv := Lib.hid (HZu.out.up hB)
            have HBv := Lib.hid (HBu.out.trans (hB.mono HBu.out.size))
            clear hB
            refine hK.out _ _ ?_ (fun hHeld => ?_)
            · (try dsimp only)
              exact ⟨HOv.out.x, HOv.out.y, HOv.out.c, HVv.out.at_ ny hny6⟩
            clear hK K
            try simp only [Act.put, List.setIfInBounds_toArray, List.set_cons_zero, List.set_cons_succ]
            refine wpAnyH_take (i := 17) (oi := { dst := some 203, op := Op.pick (Operand.tmp 188) (Operand.tmp 202) (Operand.const (Value.bool false)), type := 4, pos := "law.go:251", after := #[{ on := 2, ground := Ground.data }, { on := 16, ground := Ground.data }], guard := none }) (v := .bool true) rfl (by kernel_rfl) (by kernel_rfl) (by kernel_rfl) (fun _ _ _ h => h) (Or.inl ⟨by rfl, ?_⟩) (by assumption) ?_
            · intro w hSw
              (try dsimp only at hSw)
              go_simp
              all_goals (first | assumption | rfl | (simp; done) | (simp only [*]; done) | omega | (simp; omega))
            try simp only [Act.put, List.setIfInBounds_toArray, List.set_cons_zero, List.set_cons_succ]
            refine wpAnyH_take (i := 18) (oi := { dst := some 204, op := Op.move (Operand.tmp 203), type := 4, pos := "law.go:251", after := #[{ on := 17, ground := Ground.data }, { on := 16, ground := Ground.chain }], guard := none }) (v := .bool true) rfl (by kernel_rfl) (by kernel_rfl) (by kernel_rfl) (fun _ _ _ h => h) (Or.inl ⟨by rfl, ?_⟩) (by assumption) ?_
            · intro w hSw
              (try dsimp only at hSw)
              go_simp
              all_goals (first | assumption | rfl | (simp; done) | (simp only [*]; done) | omega | (simp; omega))
            try simp only [Act.put, List.setIfInBounds_toArray, List.set_cons_zero, List.set_cons_succ]
            refine wpAnyH_ready (rs := [19]) (by kernel_rfl) (by simp) ?_
            refine AllReadyH.cons (o := { dst := some 205, op := Op.call { callee := Callee.value (Operand.func 13), args := #[], argTypes := #[] }, type := 4, pos := "law.go:251", after := #[{ on := 18, ground := Ground.chain }, { on := 18, ground := Ground.guard }], guard := some (18, true) }) rfl (fun K hK => ?_) ?_
            rotate_left
            · exact AllReadyH.nil
            go_simp
            go_at_call 13
            refine (awake_any _).mono ?_
            rintro e Wx ⟨rfl, hB⟩
            have HOx := Lib.hid (HOv.out.up hB)
            have HVx := Lib.hid (HVv.out.up hB)
            have HZx := Lib.hid (HZv.out.up hB)
            have HBx := Lib.hid (HBv.out.trans (hB.mono HBv.out.size))
            clear hB
            refine hK.out _ _ ?_ (fun hHeld => ?_)
            · (try dsimp only)
              exact ⟨HOx.out.x, HOx.out.y, HOx.out.c, HVx.out.at_ ny hny6⟩
            clear hK K
            try simp only [Act.put, List.setIfInBounds_toArray, List.set_cons_zero, List.set_cons_succ]
            refine wpAnyH_take (i := 20) (oi := { dst := some 206, op := Op.pick (Operand.tmp 204) (Operand.tmp 205) (Operand.const (Value.bool false)), type := 4, pos := "law.go:251", after := #[{ on := 18, ground := Ground.data }, { on := 19, ground := Ground.data }], guard := none }) (v := .bool true) rfl (by kernel_rfl) (by kernel_rfl) (by kernel_rfl) (fun _ _ _ h => h) (Or.inl ⟨by rfl, ?_⟩) (by assumption) ?_
            · intro w hSw
              (try dsimp only at hSw)
              go_simp
              all_goals (first | assumption | rfl | (simp; done) | (simp only [*]; done) | omega | (simp; omega))
            try simp only [Act.put, List.setIfInBounds_toArray, List.set_cons_zero, List.set_cons_succ]
            refine wpAnyH_take (i := 21) (oi := { dst := some 8, op := Op.assign (Operand.tmp 206), type := 4, pos := "law.go:251", after := #[{ on := 20, ground := Ground.data }, { on := 19, ground := Ground.chain }, { on := 0, ground := Ground.phase }, { on := 1, ground := Ground.phase }, { on := 2, ground := Ground.phase }, { on := 3, ground := Ground.phase }, { on := 4, ground := Ground.phase }, { on := 5, ground := Ground.phase }, { on := 6, ground := Ground.phase }, { on := 7, ground := Ground.phase }, { on := 8, ground := Ground.phase }, { on := 9, ground := Ground.phase }, { on := 10, ground := Ground.phase }, { on := 11, ground := Ground.phase }, { on := 12, ground := Ground.phase }, { on := 13, ground := Ground.phase }, { on := 14, ground := Ground.phase }, { on := 15, ground := Ground.phase }, { on := 16, ground := Ground.phase }, { on := 17, ground := Ground.phase }, { on := 18, ground := Ground.phase }, { on := 19, ground := Ground.phase }, { on := 20, ground := Ground.phase }], guard := none }) (v := .bool true) rfl (by kernel_rfl) (by kernel_rfl) (by kernel_rfl) (fun _ _ _ h => h) (Or.inl ⟨by rfl, ?_⟩) (by assumption) ?_
            · intro w hSw
              (try dsimp only at hSw)
              go_simp
              all_goals (first | assumption | rfl | (simp; done) | (simp only [*]; done) | omega | (simp; omega))
            try simp only [Act.put, List.setIfInBounds_toArray, List.set_cons_zero, List.set_cons_succ]
            refine wpAnyH_done (by kernel_rfl) ?_ _
            go_wp2_with fail
            go_ret
            exact ⟨rfl, HBx.out⟩
          · rw [hf] at HFA
            clear hf
            have tx : ((nx : Int) == 0) = false := by rw [beq_eq_false_iff_ne]; omega
            refine wp_region_held_drew (S := (fun W => W.cell? ⟨bx, 3, none⟩ = some (.int .i64 nx) ∧ W.cell? ⟨bx, 4, none⟩ = some (.int .i64 ny) ∧ W.cell? ⟨bx, 5, none⟩ = some (.int .i64 C) ∧ W.cell? ⟨ga, ny, none⟩ = some (.int .i64 (a ny)))) (by kernel_rfl) ⟨HOd.out.x, HOd.out.y, HOd.out.c, HVd.out.at_ ny hny6⟩ (fun hHeld => ?_)
            refine wpAnyH_take (i := 0) (oi := { dst := some 149, op := Op.fieldAddr 39 (Operand.tmp 7) 3, type := 0, pos := "law.go:247", after := #[], guard := none }) (v := .pointer (some ⟨bx, 3, none⟩)) rfl (by kernel_rfl) (by kernel_rfl) (by kernel_rfl) (fun _ _ _ h => h) (Or.inl ⟨by rfl, ?_⟩) (by assumption) ?_
            · intro w hSw
              (try dsimp only at hSw)
              go_simp
              all_goals (first | assumption | rfl | (simp; done) | (simp only [*]; done) | omega | (simp; omega))
            try simp only [Act.put, List.setIfInBounds_toArray, List.set_cons_zero, List.set_cons_succ]
            refine wpAnyH_take (i := 1) (oi := { dst := some 150, op := Op.load 3 (Operand.tmp 149), type := 3, pos := "law.go:247", after := #[{ on := 0, ground := Ground.data }], guard := none }) (v := .int .i64 nx) rfl (by kernel_rfl) (by kernel_rfl) (by kernel_rfl) (fun _ _ _ h => h) (Or.inl ⟨by rfl, ?_⟩) (by assumption) ?_
            · intro w hSw
              (try dsimp only at hSw)
              go_simp
              all_goals (first | assumption | rfl | (simp; done) | (simp only [*]; done) | omega | (simp; omega))
            try simp only [Act.put, List.setIfInBounds_toArray, List.set_cons_zero, List.set_cons_succ]
            refine wpAnyH_take (i := 2) (oi := { dst := some 151, op := Op.fieldAddr 39 (Operand.tmp 7) 4, type := 0, pos := "law.go:247", after := #[], guard := none }) (v := .pointer (some ⟨bx, 4, none⟩)) rfl (by kernel_rfl) (by kernel_rfl) (by kernel_rfl) (fun _ _ _ h => h) (Or.inl ⟨by rfl, ?_⟩) (by assumption) ?_
            · intro w hSw
              (try dsimp only at hSw)
              go_simp
              all_goals (first | assumption | rfl | (simp; done) | (simp only [*]; done) | omega | (simp; omega))
            try simp only [Act.put, List.setIfInBounds_toArray, List.set_cons_zero, List.set_cons_succ]
            refine wpAnyH_take (i := 3) (oi := { dst := some 152, op := Op.load 3 (Operand.tmp 151), type := 3, pos := "law.go:247", after := #[{ on := 2, ground := Ground.data }], guard := none }) (v := .int .i64 ny) rfl (by kernel_rfl) (by kernel_rfl) (by kernel_rfl) (fun _ _ _ h => h) (Or.inl ⟨by rfl, ?_⟩) (by assumption) ?_
            · intro w hSw
              (try dsimp only at hSw)
              go_simp
              all_goals (first | assumption | rfl | (simp; done) | (simp only [*]; done) | omega | (simp; omega))
            try simp only [Act.put, List.setIfInBounds_toArray, List.set_cons_zero, List.set_cons_succ]
            refine wpAnyH_take (i := 4) (oi := { dst := some 153, op := Op.fieldAddr 39 (Operand.tmp 7) 5, type := 0, pos := "law.go:247", after := #[], guard := none }) (v := .pointer (some ⟨bx, 5, none⟩)) rfl (by kernel_rfl) (by kernel_rfl) (by kernel_rfl) (fun _ _ _ h => h) (Or.inl ⟨by rfl, ?_⟩) (by assumption) ?_
            · intro w hSw
              (try dsimp only at hSw)
              go_simp
              all_goals (first | assumption | rfl | (simp; done) | (simp only [*]; done) | omega | (simp; omega))
            try simp only [Act.put, List.setIfInBounds_toArray, List.set_cons_zero, List.set_cons_succ]
            refine wpAnyH_take (i := 5) (oi := { dst := some 154, op := Op.load 3 (Operand.tmp 153), type := 3, pos := "law.go:247", after := #[{ on := 4, ground := Ground.data }], guard := none }) (v := .int .i64 C) rfl (by kernel_rfl) (by kernel_rfl) (by kernel_rfl) (fun _ _ _ h => h) (Or.inl ⟨by rfl, ?_⟩) (by assumption) ?_
            · intro w hSw
              (try dsimp only at hSw)
              go_simp
              all_goals (first | assumption | rfl | (simp; done) | (simp only [*]; done) | omega | (simp; omega))
            try simp only [Act.put, List.setIfInBounds_toArray, List.set_cons_zero, List.set_cons_succ]
            refine wpAnyH_take (i := 6) (oi := { dst := some 155, op := Op.build 49 #[(0, Operand.tmp 150), (1, Operand.tmp 152), (2, Operand.tmp 154)], type := 49, pos := "law.go:247", after := #[{ on := 1, ground := Ground.data }, { on := 3, ground := Ground.data }, { on := 5, ground := Ground.data }], guard := none }) (v := .agg #[.int .i64 nx, .int .i64 ny, .int .i64 C]) rfl (by kernel_rfl) (by kernel_rfl) (by kernel_rfl) (fun _ _ _ h => h) (Or.inl ⟨by rfl, ?_⟩) (by assumption) ?_
            · intro w hSw
              (try dsimp only at hSw)
              go_simp
              all_goals (first | assumption | rfl | (simp; done) | (simp only [*]; done) | omega | (simp; omega))
            try simp only [Act.put, List.setIfInBounds_toArray, List.set_cons_zero, List.set_cons_succ]
            refine wpAnyH_ready (rs := [7]) (by kernel_rfl) (by simp) ?_
            refine AllReadyH.cons (o := { dst := some 156, op := Op.buildSlice 36 1 #[(0, Operand.tmp 155)], type := 36, pos := "law.go:247", after := #[{ on := 6, ground := Ground.data }], guard := none }) rfl (fun K hK => ?_) ?_
            rotate_left
            · exact AllReadyH.nil
            go_simp
            refine hK.out _ _ ?_ (fun hHeld => ?_)
            · (try dsimp only)
              exact ⟨(HOA.out _).x, (HOA.out _).y, (HOA.out _).c, (HVA.out _).at_ ny hny6⟩
            clear hK K
            try simp only [Act.put, List.setIfInBounds_toArray, List.set_cons_zero, List.set_cons_succ]
            refine wpAnyH_ready (rs := [8]) (by kernel_rfl) (by simp) ?_
            refine AllReadyH.cons (o := { dst := some 157, op := Op.call { callee := Callee.value (Operand.func 30), args := #[Operand.tmp 156], argTypes := #[36] }, type := 3, pos := "law.go:247", after := #[{ on := 7, ground := Ground.data }], guard := none }) rfl (fun K hK => ?_) ?_
            rotate_left
            · exact AllReadyH.nil
            go_simp
            go_at_call 30
            refine (HWR.out _).mono ?_
            rintro e w' ⟨rfl, rfl⟩
            refine hK.out _ _ ?_ (fun hHeld => ?_)
            · (try dsimp only)
              exact ⟨(HOA.out _).x, (HOA.out _).y, (HOA.out _).c, (HVA.out _).at_ ny hny6⟩
            clear hK K
            try simp only [Act.put, List.setIfInBounds_toArray, List.set_cons_zero, List.set_cons_succ]
            refine wpAnyH_take (i := 9) (oi := { dst := some 158, op := Op.binOp BinOp.neq 3 (Operand.tmp 157) (Operand.const (Value.int IntKind.i64 0)) 3, type := 4, pos := "law.go:247", after := #[{ on := 8, ground := Ground.data }], guard := none }) (v := .bool false) rfl (by kernel_rfl) (by kernel_rfl) (by kernel_rfl) (fun _ _ _ h => h) (Or.inl ⟨by rfl, ?_⟩) (by assumption) ?_
            · intro w hSw
              (try dsimp only at hSw)
              go_simp
              all_goals (first | assumption | rfl | (simp; done) | (simp only [*]; done) | omega | (simp; omega))
            try simp only [Act.put, List.setIfInBounds_toArray, List.set_cons_zero, List.set_cons_succ]
            refine wpAnyH_take (i := 10) (oi := { dst := some 159, op := Op.move (Operand.tmp 158), type := 4, pos := "law.go:247", after := #[{ on := 9, ground := Ground.data }, { on := 8, ground := Ground.chain }], guard := none }) (v := .bool false) rfl (by kernel_rfl) (by kernel_rfl) (by kernel_rfl) (fun _ _ _ h => h) (Or.inl ⟨by rfl, ?_⟩) (by assumption) ?_
            · intro w hSw
              (try dsimp only at hSw)
              go_simp
              all_goals (first | assumption | rfl | (simp; done) | (simp only [*]; done) | omega | (simp; omega))
            try simp only [Act.put, List.setIfInBounds_toArray, List.set_cons_zero, List.set_cons_succ]
            refine wpAnyH_take (i := 11) (oi := { dst := some 160, op := Op.fieldAddr 39 (Operand.tmp 7) 3, type := 0, pos := "law.go:247", after := #[{ on := 10, ground := Ground.guard }], guard := some (10, false) }) (v := .pointer (some ⟨bx, 3, none⟩)) rfl (by kernel_rfl) (by kernel_rfl) (by kernel_rfl) (fun _ _ _ h => h) (Or.inl ⟨by rfl, ?_⟩) (by assumption) ?_
            · intro w hSw
              (try dsimp only at hSw)
              go_simp
              all_goals (first | assumption | rfl | (simp; done) | (simp only [*]; done) | omega | (simp; omega))
            try simp only [Act.put, List.setIfInBounds_toArray, List.set_cons_zero, List.set_cons_succ]
            refine wpAnyH_take (i := 12) (oi := { dst := some 161, op := Op.load 3 (Operand.tmp 160), type := 3, pos := "law.go:247", after := #[{ on := 11, ground := Ground.data }, { on := 10, ground := Ground.guard }], guard := some (10, false) }) (v := .int .i64 nx) rfl (by kernel_rfl) (by kernel_rfl) (by kernel_rfl) (fun _ _ _ h => h) (Or.inl ⟨by rfl, ?_⟩) (by assumption) ?_
            · intro w hSw
              (try dsimp only at hSw)
              go_simp
              all_goals (first | assumption | rfl | (simp; done) | (simp only [*]; done) | omega | (simp; omega))
            try simp only [Act.put, List.setIfInBounds_toArray, List.set_cons_zero, List.set_cons_succ]
            refine wpAnyH_take (i := 13) (oi := { dst := some 162, op := Op.binOp BinOp.eql 3 (Operand.tmp 161) (Operand.const (Value.int IntKind.i64 0)) 3, type := 4, pos := "law.go:247", after := #[{ on := 12, ground := Ground.data }, { on := 10, ground := Ground.guard }], guard := some (10, false) }) (v := .bool false) rfl (by kernel_rfl) (by kernel_rfl) (by kernel_rfl) (fun _ _ _ h => h) (Or.inl ⟨by rfl, ?_⟩) (by assumption) ?_
            · intro w hSw
              (try dsimp only at hSw)
              go_simp
              all_goals (first | assumption | rfl | (simp; done) | (simp only [*]; done) | omega | (simp; omega))
            try simp only [Act.put, List.setIfInBounds_toArray, List.set_cons_zero, List.set_cons_succ]
            refine wpAnyH_take (i := 14) (oi := { dst := some 163, op := Op.pick (Operand.tmp 159) (Operand.const (Value.bool true)) (Operand.tmp 162), type := 4, pos := "law.go:247", after := #[{ on := 10, ground := Ground.data }, { on := 13, ground := Ground.data }], guard := none }) (v := .bool false) rfl (by kernel_rfl) (by kernel_rfl) (by kernel_rfl) (fun _ _ _ h => h) (Or.inl ⟨by rfl, ?_⟩) (by assumption) ?_
            · intro w hSw
              (try dsimp only at hSw)
              go_simp
              all_goals (first | assumption | rfl | (simp; done) | (simp only [*]; done) | omega | (simp; omega))
            try simp only [Act.put, List.setIfInBounds_toArray, List.set_cons_zero, List.set_cons_succ]
            refine wpAnyH_take (i := 15) (oi := { dst := some 164, op := Op.move (Operand.tmp 163), type := 4, pos := "law.go:247", after := #[{ on := 14, ground := Ground.data }, { on := 10, ground := Ground.chain }], guard := none }) (v := .bool false) rfl (by kernel_rfl) (by kernel_rfl) (by kernel_rfl) (fun _ _ _ h => h) (Or.inl ⟨by rfl, ?_⟩) (by assumption) ?_
            · intro w hSw
              (try dsimp only at hSw)
              go_simp
              all_goals (first | assumption | rfl | (simp; done) | (simp only [*]; done) | omega | (simp; omega))
            try simp only [Act.put, List.setIfInBounds_toArray, List.set_cons_zero, List.set_cons_succ]
            refine wpAnyH_take (i := 16) (oi := { dst := some 165, op := Op.move (Operand.tmp 9), type := 35, pos := "law.go:247", after := #[{ on := 15, ground := Ground.guard }], guard := some (15, false) }) (v := vecV ga) rfl (by kernel_rfl) (by kernel_rfl) (by kernel_rfl) (fun _ _ _ h => h) (Or.inl ⟨by rfl, ?_⟩) (by assumption) ?_
            · intro w hSw
              (try dsimp only at hSw)
              go_simp
              all_goals (first | assumption | rfl | (simp; done) | (simp only [*]; done) | omega | (simp; omega))
            try simp only [Act.put, List.setIfInBounds_toArray, List.set_cons_zero, List.set_cons_succ]
            refine wpAnyH_take (i := 17) (oi := { dst := some 166, op := Op.fieldAddr 39 (Operand.tmp 7) 4, type := 0, pos := "law.go:247", after := #[{ on := 15, ground := Ground.guard }], guard := some (15, false) }) (v := .pointer (some ⟨bx, 4, none⟩)) rfl (by kernel_rfl) (by kernel_rfl) (by kernel_rfl) (fun _ _ _ h => h) (Or.inl ⟨by rfl, ?_⟩) (by assumption) ?_
            · intro w hSw
              (try dsimp only at hSw)
              go_simp
              all_goals (first | assumption | rfl | (simp; done) | (simp only [*]; done) | omega | (simp; omega))
            try simp only [Act.put, List.setIfInBounds_toArray, List.set_cons_zero, List.set_cons_succ]
            refine wpAnyH_take (i := 18) (oi := { dst := some 167, op := Op.load 3 (Operand.tmp 166), type := 3, pos := "law.go:247", after := #[{ on := 17, ground := Ground.data }, { on := 15, ground := Ground.guard }], guard := some (15, false) }) (v := .int .i64 ny) rfl (by kernel_rfl) (by kernel_rfl) (by kernel_rfl) (fun _ _ _ h => h) (Or.inl ⟨by rfl, ?_⟩) (by assumption) ?_
            · intro w hSw
              (try dsimp only at hSw)
              go_simp
              all_goals (first | assumption | rfl | (simp; done) | (simp only [*]; done) | omega | (simp; omega))
            try simp only [Act.put, List.setIfInBounds_toArray, List.set_cons_zero, List.set_cons_succ]
            refine wpAnyH_take (i := 19) (oi := { dst := some 168, op := Op.indexAddr 35 (Operand.tmp 165) (Operand.tmp 167), type := 0, pos := "law.go:247", after := #[{ on := 16, ground := Ground.data }, { on := 18, ground := Ground.data }, { on := 15, ground := Ground.guard }], guard := some (15, false) }) (v := .pointer (some ⟨ga, ny, none⟩)) rfl (by kernel_rfl) (by kernel_rfl) (by kernel_rfl) (fun _ _ _ h => h) (Or.inl ⟨by rfl, ?_⟩) (by assumption) ?_
            · intro w hSw
              (try dsimp only at hSw)
              go_simp
              all_goals (first | assumption | rfl | (simp; done) | (simp only [*]; done) | omega | (simp; omega))
            try simp only [Act.put, List.setIfInBounds_toArray, List.set_cons_zero, List.set_cons_succ]
            refine wpAnyH_take (i := 20) (oi := { dst := some 169, op := Op.load 3 (Operand.tmp 168), type := 3, pos := "law.go:247", after := #[{ on := 19, ground := Ground.data }, { on := 15, ground := Ground.guard }], guard := some (15, false) }) (v := .int .i64 (a ny)) rfl (by kernel_rfl) (by kernel_rfl) (by kernel_rfl) (fun _ _ _ h => h) (Or.inl ⟨by rfl, ?_⟩) (by assumption) ?_
            · intro w hSw
              (try dsimp only at hSw)
              go_simp
              all_goals (first | assumption | rfl | (simp; done) | (simp only [*]; done) | omega | (simp; omega))
            try simp only [Act.put, List.setIfInBounds_toArray, List.set_cons_zero, List.set_cons_succ]
            refine wpAnyH_take (i := 21) (oi := { dst := some 170, op := Op.fieldAddr 39 (Operand.tmp 7) 5, type := 0, pos := "law.go:247", after := #[{ on := 15, ground := Ground.guard }], guard := some (15, false) }) (v := .pointer (some ⟨bx, 5, none⟩)) rfl (by kernel_rfl) (by kernel_rfl) (by kernel_rfl) (fun _ _ _ h => h) (Or.inl ⟨by rfl, ?_⟩) (by assumption) ?_
            · intro w hSw
              (try dsimp only at hSw)
              go_simp
              all_goals (first | assumption | rfl | (simp; done) | (simp only [*]; done) | omega | (simp; omega))
            try simp only [Act.put, List.setIfInBounds_toArray, List.set_cons_zero, List.set_cons_succ]
            refine wpAnyH_take (i := 22) (oi := { dst := some 171, op := Op.load 3 (Operand.tmp 170), type := 3, pos := "law.go:247", after := #[{ on := 21, ground := Ground.data }, { on := 15, ground := Ground.guard }], guard := some (15, false) }) (v := .int .i64 C) rfl (by kernel_rfl) (by kernel_rfl) (by kernel_rfl) (fun _ _ _ h => h) (Or.inl ⟨by rfl, ?_⟩) (by assumption) ?_
            · intro w hSw
              (try dsimp only at hSw)
              go_simp
              all_goals (first | assumption | rfl | (simp; done) | (simp only [*]; done) | omega | (simp; omega))
            try simp only [Act.put, List.setIfInBounds_toArray, List.set_cons_zero, List.set_cons_succ]
            refine wpAnyH_ready (rs := [23]) (by kernel_rfl) (by simp) ?_
            refine AllReadyH.cons (o := { dst := some 172, op := Op.call { callee := Callee.value (Operand.func 31), args := #[Operand.tmp 169, Operand.tmp 171], argTypes := #[3, 3] }, type := 4, pos := "law.go:247", after := #[{ on := 20, ground := Ground.data }, { on := 22, ground := Ground.data }, { on := 15, ground := Ground.chain }, { on := 15, ground := Ground.guard }], guard := some (15, false) }) rfl (fun K hK => ?_) ?_
            rotate_left
            · exact AllReadyH.nil
            go_simp
            go_at_call 31
            refine (HFA.out _).mono ?_
            rintro e w' ⟨rfl, rfl⟩
            refine hK.out _ _ ?_ (fun hHeld => ?_)
            · (try dsimp only)
              exact ⟨(HOA.out _).x, (HOA.out _).y, (HOA.out _).c, (HVA.out _).at_ ny hny6⟩
            clear hK K
            try simp only [Act.put, List.setIfInBounds_toArray, List.set_cons_zero, List.set_cons_succ]
            refine wpAnyH_take (i := 24) (oi := { dst := some 173, op := Op.pick (Operand.tmp 164) (Operand.const (Value.bool true)) (Operand.tmp 172), type := 4, pos := "law.go:247", after := #[{ on := 15, ground := Ground.data }, { on := 23, ground := Ground.data }], guard := none }) (v := .bool true) rfl (by kernel_rfl) (by kernel_rfl) (by kernel_rfl) (fun _ _ _ h => h) (Or.inl ⟨by rfl, ?_⟩) (by assumption) ?_
            · intro w hSw
              (try dsimp only at hSw)
              go_simp
              all_goals (first | assumption | rfl | (simp; done) | (simp only [*]; done) | omega | (simp; omega))
            try simp only [Act.put, List.setIfInBounds_toArray, List.set_cons_zero, List.set_cons_succ]
            refine wpAnyH_done (by kernel_rfl) ?_ _
            clear vy
            clear y3 y4 y5
            go_wp2_with fail
            go_at_call 13
            refine (awake_any _).mono ?_
            rintro e WZ ⟨rfl, hB⟩
            have SZ := Lib.hid ((HSA.out _).1.trans (hB.mono (HSA.out _).1.size))
            clear hB
            go_wp2_with fail
            go_ret
            exact ⟨rfl, SZ.out⟩
      · have HWR := Lib.hid (fun W => wrongOne_is W X Y C 50 h0)
        clear h0
        refine wp_region_held_drew (S := (fun W => W.cell? ⟨bx, 3, none⟩ = some (.int .i64 X) ∧ W.cell? ⟨bx, 4, none⟩ = some (.int .i64 Y) ∧ W.cell? ⟨bx, 5, none⟩ = some (.int .i64 C))) (by kernel_rfl) ⟨HOd.out.x, HOd.out.y, HOd.out.c⟩ (fun hHeld => ?_)
        refine wpAnyH_take (i := 0) (oi := { dst := some 149, op := Op.fieldAddr 39 (Operand.tmp 7) 3, type := 0, pos := "law.go:247", after := #[], guard := none }) (v := .pointer (some ⟨bx, 3, none⟩)) rfl (by kernel_rfl) (by kernel_rfl) (by kernel_rfl) (fun _ _ _ h => h) (Or.inl ⟨by rfl, ?_⟩) (by assumption) ?_
        · intro w hSw
          (try dsimp only at hSw)
          go_simp
          all_goals (first | assumption | rfl | (simp; done) | (simp only [*]; done) | omega | (simp; omega))
        try simp only [Act.put, List.setIfInBounds_toArray, List.set_cons_zero, List.set_cons_succ]
        refine wpAnyH_take (i := 1) (oi := { dst := some 150, op := Op.load 3 (Operand.tmp 149), type := 3, pos := "law.go:247", after := #[{ on := 0, ground := Ground.data }], guard := none }) (v := .int .i64 X) rfl (by kernel_rfl) (by kernel_rfl) (by kernel_rfl) (fun _ _ _ h => h) (Or.inl ⟨by rfl, ?_⟩) (by assumption) ?_
        · intro w hSw
          (try dsimp only at hSw)
          go_simp
          all_goals (first | assumption | rfl | (simp; done) | (simp only [*]; done) | omega | (simp; omega))
        try simp only [Act.put, List.setIfInBounds_toArray, List.set_cons_zero, List.set_cons_succ]
        refine wpAnyH_take (i := 2) (oi := { dst := some 151, op := Op.fieldAddr 39 (Operand.tmp 7) 4, type := 0, pos := "law.go:247", after := #[], guard := none }) (v := .pointer (some ⟨bx, 4, none⟩)) rfl (by kernel_rfl) (by kernel_rfl) (by kernel_rfl) (fun _ _ _ h => h) (Or.inl ⟨by rfl, ?_⟩) (by assumption) ?_
        · intro w hSw
          (try dsimp only at hSw)
          go_simp
          all_goals (first | assumption | rfl | (simp; done) | (simp only [*]; done) | omega | (simp; omega))
        try simp only [Act.put, List.setIfInBounds_toArray, List.set_cons_zero, List.set_cons_succ]
        refine wpAnyH_take (i := 3) (oi := { dst := some 152, op := Op.load 3 (Operand.tmp 151), type := 3, pos := "law.go:247", after := #[{ on := 2, ground := Ground.data }], guard := none }) (v := .int .i64 Y) rfl (by kernel_rfl) (by kernel_rfl) (by kernel_rfl) (fun _ _ _ h => h) (Or.inl ⟨by rfl, ?_⟩) (by assumption) ?_
        · intro w hSw
          (try dsimp only at hSw)
          go_simp
          all_goals (first | assumption | rfl | (simp; done) | (simp only [*]; done) | omega | (simp; omega))
        try simp only [Act.put, List.setIfInBounds_toArray, List.set_cons_zero, List.set_cons_succ]
        refine wpAnyH_take (i := 4) (oi := { dst := some 153, op := Op.fieldAddr 39 (Operand.tmp 7) 5, type := 0, pos := "law.go:247", after := #[], guard := none }) (v := .pointer (some ⟨bx, 5, none⟩)) rfl (by kernel_rfl) (by kernel_rfl) (by kernel_rfl) (fun _ _ _ h => h) (Or.inl ⟨by rfl, ?_⟩) (by assumption) ?_
        · intro w hSw
          (try dsimp only at hSw)
          go_simp
          all_goals (first | assumption | rfl | (simp; done) | (simp only [*]; done) | omega | (simp; omega))
        try simp only [Act.put, List.setIfInBounds_toArray, List.set_cons_zero, List.set_cons_succ]
        refine wpAnyH_take (i := 5) (oi := { dst := some 154, op := Op.load 3 (Operand.tmp 153), type := 3, pos := "law.go:247", after := #[{ on := 4, ground := Ground.data }], guard := none }) (v := .int .i64 C) rfl (by kernel_rfl) (by kernel_rfl) (by kernel_rfl) (fun _ _ _ h => h) (Or.inl ⟨by rfl, ?_⟩) (by assumption) ?_
        · intro w hSw
          (try dsimp only at hSw)
          go_simp
          all_goals (first | assumption | rfl | (simp; done) | (simp only [*]; done) | omega | (simp; omega))
        try simp only [Act.put, List.setIfInBounds_toArray, List.set_cons_zero, List.set_cons_succ]
        refine wpAnyH_take (i := 6) (oi := { dst := some 155, op := Op.build 49 #[(0, Operand.tmp 150), (1, Operand.tmp 152), (2, Operand.tmp 154)], type := 49, pos := "law.go:247", after := #[{ on := 1, ground := Ground.data }, { on := 3, ground := Ground.data }, { on := 5, ground := Ground.data }], guard := none }) (v := .agg #[.int .i64 X, .int .i64 Y, .int .i64 C]) rfl (by kernel_rfl) (by kernel_rfl) (by kernel_rfl) (fun _ _ _ h => h) (Or.inl ⟨by rfl, ?_⟩) (by assumption) ?_
        · intro w hSw
          (try dsimp only at hSw)
          go_simp
          all_goals (first | assumption | rfl | (simp; done) | (simp only [*]; done) | omega | (simp; omega))
        try simp only [Act.put, List.setIfInBounds_toArray, List.set_cons_zero, List.set_cons_succ]
        refine wpAnyH_ready (rs := [7]) (by kernel_rfl) (by simp) ?_
        refine AllReadyH.cons (o := { dst := some 156, op := Op.buildSlice 36 1 #[(0, Operand.tmp 155)], type := 36, pos := "law.go:247", after := #[{ on := 6, ground := Ground.data }], guard := none }) rfl (fun K hK => ?_) ?_
        rotate_left
        · exact AllReadyH.nil
        go_simp
        refine hK.out _ _ ?_ (fun hHeld => ?_)
        · (try dsimp only)
          exact ⟨(HOA.out _).x, (HOA.out _).y, (HOA.out _).c⟩
        clear hK K
        try simp only [Act.put, List.setIfInBounds_toArray, List.set_cons_zero, List.set_cons_succ]
        refine wpAnyH_ready (rs := [8]) (by kernel_rfl) (by simp) ?_
        refine AllReadyH.cons (o := { dst := some 157, op := Op.call { callee := Callee.value (Operand.func 30), args := #[Operand.tmp 156], argTypes := #[36] }, type := 3, pos := "law.go:247", after := #[{ on := 7, ground := Ground.data }], guard := none }) rfl (fun K hK => ?_) ?_
        rotate_left
        · exact AllReadyH.nil
        go_simp
        go_at_call 30
        refine (HWR.out _).mono ?_
        rintro e w' ⟨rfl, rfl⟩
        refine hK.out _ _ ?_ (fun hHeld => ?_)
        · (try dsimp only)
          exact ⟨(HOA.out _).x, (HOA.out _).y, (HOA.out _).c⟩
        clear hK K
        try simp only [Act.put, List.setIfInBounds_toArray, List.set_cons_zero, List.set_cons_succ]
        refine wpAnyH_take (i := 9) (oi := { dst := some 158, op := Op.binOp BinOp.neq 3 (Operand.tmp 157) (Operand.const (Value.int IntKind.i64 0)) 3, type := 4, pos := "law.go:247", after := #[{ on := 8, ground := Ground.data }], guard := none }) (v := .bool true) rfl (by kernel_rfl) (by kernel_rfl) (by kernel_rfl) (fun _ _ _ h => h) (Or.inl ⟨by rfl, ?_⟩) (by assumption) ?_
        · intro w hSw
          (try dsimp only at hSw)
          go_simp
          all_goals (first | assumption | rfl | (simp; done) | (simp only [*]; done) | omega | (simp; omega))
        try simp only [Act.put, List.setIfInBounds_toArray, List.set_cons_zero, List.set_cons_succ]
        refine wpAnyH_take (i := 10) (oi := { dst := some 159, op := Op.move (Operand.tmp 158), type := 4, pos := "law.go:247", after := #[{ on := 9, ground := Ground.data }, { on := 8, ground := Ground.chain }], guard := none }) (v := .bool true) rfl (by kernel_rfl) (by kernel_rfl) (by kernel_rfl) (fun _ _ _ h => h) (Or.inl ⟨by rfl, ?_⟩) (by assumption) ?_
        · intro w hSw
          (try dsimp only at hSw)
          go_simp
          all_goals (first | assumption | rfl | (simp; done) | (simp only [*]; done) | omega | (simp; omega))
        try simp only [Act.put, List.setIfInBounds_toArray, List.set_cons_zero, List.set_cons_succ]
        refine wpAnyH_take (i := 11) (oi := { dst := some 160, op := Op.fieldAddr 39 (Operand.tmp 7) 3, type := 0, pos := "law.go:247", after := #[{ on := 10, ground := Ground.guard }], guard := some (10, false) }) (v := undef) rfl (by kernel_rfl) (by kernel_rfl) (by kernel_rfl) (fun _ _ _ h => h) (Or.inr ⟨by rfl, rfl⟩) (by assumption) ?_
        try simp only [Act.put, List.setIfInBounds_toArray, List.set_cons_zero, List.set_cons_succ]
        refine wpAnyH_take (i := 12) (oi := { dst := some 161, op := Op.load 3 (Operand.tmp 160), type := 3, pos := "law.go:247", after := #[{ on := 11, ground := Ground.data }, { on := 10, ground := Ground.guard }], guard := some (10, false) }) (v := undef) rfl (by kernel_rfl) (by kernel_rfl) (by kernel_rfl) (fun _ _ _ h => h) (Or.inr ⟨by rfl, rfl⟩) (by assumption) ?_
        try simp only [Act.put, List.setIfInBounds_toArray, List.set_cons_zero, List.set_cons_succ]
        refine wpAnyH_take (i := 13) (oi := { dst := some 162, op := Op.binOp BinOp.eql 3 (Operand.tmp 161) (Operand.const (Value.int IntKind.i64 0)) 3, type := 4, pos := "law.go:247", after := #[{ on := 12, ground := Ground.data }, { on := 10, ground := Ground.guard }], guard := some (10, false) }) (v := undef) rfl (by kernel_rfl) (by kernel_rfl) (by kernel_rfl) (fun _ _ _ h => h) (Or.inr ⟨by rfl, rfl⟩) (by assumption) ?_
        try simp only [Act.put, List.setIfInBounds_toArray, List.set_cons_zero, List.set_cons_succ]
        refine wpAnyH_take (i := 14) (oi := { dst := some 163, op := Op.pick (Operand.tmp 159) (Operand.const (Value.bool true)) (Operand.tmp 162), type := 4, pos := "law.go:247", after := #[{ on := 10, ground := Ground.data }, { on := 13, ground := Ground.data }], guard := none }) (v := .bool true) rfl (by kernel_rfl) (by kernel_rfl) (by kernel_rfl) (fun _ _ _ h => h) (Or.inl ⟨by rfl, ?_⟩) (by assumption) ?_
        · intro w hSw
          (try dsimp only at hSw)
          go_simp
          all_goals (first | assumption | rfl | (simp; done) | (simp only [*]; done) | omega | (simp; omega))
        try simp only [Act.put, List.setIfInBounds_toArray, List.set_cons_zero, List.set_cons_succ]
        refine wpAnyH_take (i := 15) (oi := { dst := some 164, op := Op.move (Operand.tmp 163), type := 4, pos := "law.go:247", after := #[{ on := 14, ground := Ground.data }, { on := 10, ground := Ground.chain }], guard := none }) (v := .bool true) rfl (by kernel_rfl) (by kernel_rfl) (by kernel_rfl) (fun _ _ _ h => h) (Or.inl ⟨by rfl, ?_⟩) (by assumption) ?_
        · intro w hSw
          (try dsimp only at hSw)
          go_simp
          all_goals (first | assumption | rfl | (simp; done) | (simp only [*]; done) | omega | (simp; omega))
        try simp only [Act.put, List.setIfInBounds_toArray, List.set_cons_zero, List.set_cons_succ]
        refine wpAnyH_take (i := 16) (oi := { dst := some 165, op := Op.move (Operand.tmp 9), type := 35, pos := "law.go:247", after := #[{ on := 15, ground := Ground.guard }], guard := some (15, false) }) (v := undef) rfl (by kernel_rfl) (by kernel_rfl) (by kernel_rfl) (fun _ _ _ h => h) (Or.inr ⟨by rfl, rfl⟩) (by assumption) ?_
        try simp only [Act.put, List.setIfInBounds_toArray, List.set_cons_zero, List.set_cons_succ]
        refine wpAnyH_take (i := 17) (oi := { dst := some 166, op := Op.fieldAddr 39 (Operand.tmp 7) 4, type := 0, pos := "law.go:247", after := #[{ on := 15, ground := Ground.guard }], guard := some (15, false) }) (v := undef) rfl (by kernel_rfl) (by kernel_rfl) (by kernel_rfl) (fun _ _ _ h => h) (Or.inr ⟨by rfl, rfl⟩) (by assumption) ?_
        try simp only [Act.put, List.setIfInBounds_toArray, List.set_cons_zero, List.set_cons_succ]
        refine wpAnyH_take (i := 18) (oi := { dst := some 167, op := Op.load 3 (Operand.tmp 166), type := 3, pos := "law.go:247", after := #[{ on := 17, ground := Ground.data }, { on := 15, ground := Ground.guard }], guard := some (15, false) }) (v := undef) rfl (by kernel_rfl) (by kernel_rfl) (by kernel_rfl) (fun _ _ _ h => h) (Or.inr ⟨by rfl, rfl⟩) (by assumption) ?_
        try simp only [Act.put, List.setIfInBounds_toArray, List.set_cons_zero, List.set_cons_succ]
        refine wpAnyH_take (i := 19) (oi := { dst := some 168, op := Op.indexAddr 35 (Operand.tmp 165) (Operand.tmp 167), type := 0, pos := "law.go:247", after := #[{ on := 16, ground := Ground.data }, { on := 18, ground := Ground.data }, { on := 15, ground := Ground.guard }], guard := some (15, false) }) (v := undef) rfl (by kernel_rfl) (by kernel_rfl) (by kernel_rfl) (fun _ _ _ h => h) (Or.inr ⟨by rfl, rfl⟩) (by assumption) ?_
        try simp only [Act.put, List.setIfInBounds_toArray, List.set_cons_zero, List.set_cons_succ]
        refine wpAnyH_take (i := 20) (oi := { dst := some 169, op := Op.load 3 (Operand.tmp 168), type := 3, pos := "law.go:247", after := #[{ on := 19, ground := Ground.data }, { on := 15, ground := Ground.guard }], guard := some (15, false) }) (v := undef) rfl (by kernel_rfl) (by kernel_rfl) (by kernel_rfl) (fun _ _ _ h => h) (Or.inr ⟨by rfl, rfl⟩) (by assumption) ?_
        try simp only [Act.put, List.setIfInBounds_toArray, List.set_cons_zero, List.set_cons_succ]
        refine wpAnyH_take (i := 21) (oi := { dst := some 170, op := Op.fieldAddr 39 (Operand.tmp 7) 5, type := 0, pos := "law.go:247", after := #[{ on := 15, ground := Ground.guard }], guard := some (15, false) }) (v := undef) rfl (by kernel_rfl) (by kernel_rfl) (by kernel_rfl) (fun _ _ _ h => h) (Or.inr ⟨by rfl, rfl⟩) (by assumption) ?_
        try simp only [Act.put, List.setIfInBounds_toArray, List.set_cons_zero, List.set_cons_succ]
        refine wpAnyH_take (i := 22) (oi := { dst := some 171, op := Op.load 3 (Operand.tmp 170), type := 3, pos := "law.go:247", after := #[{ on := 21, ground := Ground.data }, { on := 15, ground := Ground.guard }], guard := some (15, false) }) (v := undef) rfl (by kernel_rfl) (by kernel_rfl) (by kernel_rfl) (fun _ _ _ h => h) (Or.inr ⟨by rfl, rfl⟩) (by assumption) ?_
        try simp only [Act.put, List.setIfInBounds_toArray, List.set_cons_zero, List.set_cons_succ]
        refine wpAnyH_take (i := 23) (oi := { dst := some 172, op := Op.call { callee := Callee.value (Operand.func 31), args := #[Operand.tmp 169, Operand.tmp 171], argTypes := #[3, 3] }, type := 4, pos := "law.go:247", after := #[{ on := 20, ground := Ground.data }, { on := 22, ground := Ground.data }, { on := 15, ground := Ground.chain }, { on := 15, ground := Ground.guard }], guard := some (15, false) }) (v := undef) rfl (by kernel_rfl) (by kernel_rfl) (by kernel_rfl) (fun _ _ _ h => h) (Or.inr ⟨by rfl, rfl⟩) (by assumption) ?_
        try simp only [Act.put, List.setIfInBounds_toArray, List.set_cons_zero, List.set_cons_succ]
        refine wpAnyH_take (i := 24) (oi := { dst := some 173, op := Op.pick (Operand.tmp 164) (Operand.const (Value.bool true)) (Operand.tmp 172), type := 4, pos := "law.go:247", after := #[{ on := 15, ground := Ground.data }, { on := 23, ground := Ground.data }], guard := none }) (v := .bool true) rfl (by kernel_rfl) (by kernel_rfl) (by kernel_rfl) (fun _ _ _ h => h) (Or.inl ⟨by rfl, ?_⟩) (by assumption) ?_
        · intro w hSw
          (try dsimp only at hSw)
          go_simp
          all_goals (first | assumption | rfl | (simp; done) | (simp only [*]; done) | omega | (simp; omega))
        try simp only [Act.put, List.setIfInBounds_toArray, List.set_cons_zero, List.set_cons_succ]
        refine wpAnyH_done (by kernel_rfl) ?_ _
        clear y3 y4 y5
        go_wp2_with fail
        go_at_call 13
        refine (awake_any _).mono ?_
        rintro e WZ ⟨rfl, hB⟩
        have SZ := Lib.hid ((HSA.out _).1.trans (hB.mono (HSA.out _).1.size))
        clear hB
        go_wp2_with fail
        go_ret
        exact ⟨rfl, SZ.out⟩
      · have HWR := Lib.hid (fun W => wrongOne_is W X Y C 51 h0)
        clear h0
        refine wp_region_held_drew (S := (fun W => W.cell? ⟨bx, 3, none⟩ = some (.int .i64 X) ∧ W.cell? ⟨bx, 4, none⟩ = some (.int .i64 Y) ∧ W.cell? ⟨bx, 5, none⟩ = some (.int .i64 C))) (by kernel_rfl) ⟨HOd.out.x, HOd.out.y, HOd.out.c⟩ (fun hHeld => ?_)
        refine wpAnyH_take (i := 0) (oi := { dst := some 149, op := Op.fieldAddr 39 (Operand.tmp 7) 3, type := 0, pos := "law.go:247", after := #[], guard := none }) (v := .pointer (some ⟨bx, 3, none⟩)) rfl (by kernel_rfl) (by kernel_rfl) (by kernel_rfl) (fun _ _ _ h => h) (Or.inl ⟨by rfl, ?_⟩) (by assumption) ?_
        · intro w hSw
          (try dsimp only at hSw)
          go_simp
          all_goals (first | assumption | rfl | (simp; done) | (simp only [*]; done) | omega | (simp; omega))
        try simp only [Act.put, List.setIfInBounds_toArray, List.set_cons_zero, List.set_cons_succ]
        refine wpAnyH_take (i := 1) (oi := { dst := some 150, op := Op.load 3 (Operand.tmp 149), type := 3, pos := "law.go:247", after := #[{ on := 0, ground := Ground.data }], guard := none }) (v := .int .i64 X) rfl (by kernel_rfl) (by kernel_rfl) (by kernel_rfl) (fun _ _ _ h => h) (Or.inl ⟨by rfl, ?_⟩) (by assumption) ?_
        · intro w hSw
          (try dsimp only at hSw)
          go_simp
          all_goals (first | assumption | rfl | (simp; done) | (simp only [*]; done) | omega | (simp; omega))
        try simp only [Act.put, List.setIfInBounds_toArray, List.set_cons_zero, List.set_cons_succ]
        refine wpAnyH_take (i := 2) (oi := { dst := some 151, op := Op.fieldAddr 39 (Operand.tmp 7) 4, type := 0, pos := "law.go:247", after := #[], guard := none }) (v := .pointer (some ⟨bx, 4, none⟩)) rfl (by kernel_rfl) (by kernel_rfl) (by kernel_rfl) (fun _ _ _ h => h) (Or.inl ⟨by rfl, ?_⟩) (by assumption) ?_
        · intro w hSw
          (try dsimp only at hSw)
          go_simp
          all_goals (first | assumption | rfl | (simp; done) | (simp only [*]; done) | omega | (simp; omega))
        try simp only [Act.put, List.setIfInBounds_toArray, List.set_cons_zero, List.set_cons_succ]
        refine wpAnyH_take (i := 3) (oi := { dst := some 152, op := Op.load 3 (Operand.tmp 151), type := 3, pos := "law.go:247", after := #[{ on := 2, ground := Ground.data }], guard := none }) (v := .int .i64 Y) rfl (by kernel_rfl) (by kernel_rfl) (by kernel_rfl) (fun _ _ _ h => h) (Or.inl ⟨by rfl, ?_⟩) (by assumption) ?_
        · intro w hSw
          (try dsimp only at hSw)
          go_simp
          all_goals (first | assumption | rfl | (simp; done) | (simp only [*]; done) | omega | (simp; omega))
        try simp only [Act.put, List.setIfInBounds_toArray, List.set_cons_zero, List.set_cons_succ]
        refine wpAnyH_take (i := 4) (oi := { dst := some 153, op := Op.fieldAddr 39 (Operand.tmp 7) 5, type := 0, pos := "law.go:247", after := #[], guard := none }) (v := .pointer (some ⟨bx, 5, none⟩)) rfl (by kernel_rfl) (by kernel_rfl) (by kernel_rfl) (fun _ _ _ h => h) (Or.inl ⟨by rfl, ?_⟩) (by assumption) ?_
        · intro w hSw
          (try dsimp only at hSw)
          go_simp
          all_goals (first | assumption | rfl | (simp; done) | (simp only [*]; done) | omega | (simp; omega))
        try simp only [Act.put, List.setIfInBounds_toArray, List.set_cons_zero, List.set_cons_succ]
        refine wpAnyH_take (i := 5) (oi := { dst := some 154, op := Op.load 3 (Operand.tmp 153), type := 3, pos := "law.go:247", after := #[{ on := 4, ground := Ground.data }], guard := none }) (v := .int .i64 C) rfl (by kernel_rfl) (by kernel_rfl) (by kernel_rfl) (fun _ _ _ h => h) (Or.inl ⟨by rfl, ?_⟩) (by assumption) ?_
        · intro w hSw
          (try dsimp only at hSw)
          go_simp
          all_goals (first | assumption | rfl | (simp; done) | (simp only [*]; done) | omega | (simp; omega))
        try simp only [Act.put, List.setIfInBounds_toArray, List.set_cons_zero, List.set_cons_succ]
        refine wpAnyH_take (i := 6) (oi := { dst := some 155, op := Op.build 49 #[(0, Operand.tmp 150), (1, Operand.tmp 152), (2, Operand.tmp 154)], type := 49, pos := "law.go:247", after := #[{ on := 1, ground := Ground.data }, { on := 3, ground := Ground.data }, { on := 5, ground := Ground.data }], guard := none }) (v := .agg #[.int .i64 X, .int .i64 Y, .int .i64 C]) rfl (by kernel_rfl) (by kernel_rfl) (by kernel_rfl) (fun _ _ _ h => h) (Or.inl ⟨by rfl, ?_⟩) (by assumption) ?_
        · intro w hSw
          (try dsimp only at hSw)
          go_simp
          all_goals (first | assumption | rfl | (simp; done) | (simp only [*]; done) | omega | (simp; omega))
        try simp only [Act.put, List.setIfInBounds_toArray, List.set_cons_zero, List.set_cons_succ]
        refine wpAnyH_ready (rs := [7]) (by kernel_rfl) (by simp) ?_
        refine AllReadyH.cons (o := { dst := some 156, op := Op.buildSlice 36 1 #[(0, Operand.tmp 155)], type := 36, pos := "law.go:247", after := #[{ on := 6, ground := Ground.data }], guard := none }) rfl (fun K hK => ?_) ?_
        rotate_left
        · exact AllReadyH.nil
        go_simp
        refine hK.out _ _ ?_ (fun hHeld => ?_)
        · (try dsimp only)
          exact ⟨(HOA.out _).x, (HOA.out _).y, (HOA.out _).c⟩
        clear hK K
        try simp only [Act.put, List.setIfInBounds_toArray, List.set_cons_zero, List.set_cons_succ]
        refine wpAnyH_ready (rs := [8]) (by kernel_rfl) (by simp) ?_
        refine AllReadyH.cons (o := { dst := some 157, op := Op.call { callee := Callee.value (Operand.func 30), args := #[Operand.tmp 156], argTypes := #[36] }, type := 3, pos := "law.go:247", after := #[{ on := 7, ground := Ground.data }], guard := none }) rfl (fun K hK => ?_) ?_
        rotate_left
        · exact AllReadyH.nil
        go_simp
        go_at_call 30
        refine (HWR.out _).mono ?_
        rintro e w' ⟨rfl, rfl⟩
        refine hK.out _ _ ?_ (fun hHeld => ?_)
        · (try dsimp only)
          exact ⟨(HOA.out _).x, (HOA.out _).y, (HOA.out _).c⟩
        clear hK K
        try simp only [Act.put, List.setIfInBounds_toArray, List.set_cons_zero, List.set_cons_succ]
        refine wpAnyH_take (i := 9) (oi := { dst := some 158, op := Op.binOp BinOp.neq 3 (Operand.tmp 157) (Operand.const (Value.int IntKind.i64 0)) 3, type := 4, pos := "law.go:247", after := #[{ on := 8, ground := Ground.data }], guard := none }) (v := .bool true) rfl (by kernel_rfl) (by kernel_rfl) (by kernel_rfl) (fun _ _ _ h => h) (Or.inl ⟨by rfl, ?_⟩) (by assumption) ?_
        · intro w hSw
          (try dsimp only at hSw)
          go_simp
          all_goals (first | assumption | rfl | (simp; done) | (simp only [*]; done) | omega | (simp; omega))
        try simp only [Act.put, List.setIfInBounds_toArray, List.set_cons_zero, List.set_cons_succ]
        refine wpAnyH_take (i := 10) (oi := { dst := some 159, op := Op.move (Operand.tmp 158), type := 4, pos := "law.go:247", after := #[{ on := 9, ground := Ground.data }, { on := 8, ground := Ground.chain }], guard := none }) (v := .bool true) rfl (by kernel_rfl) (by kernel_rfl) (by kernel_rfl) (fun _ _ _ h => h) (Or.inl ⟨by rfl, ?_⟩) (by assumption) ?_
        · intro w hSw
          (try dsimp only at hSw)
          go_simp
          all_goals (first | assumption | rfl | (simp; done) | (simp only [*]; done) | omega | (simp; omega))
        try simp only [Act.put, List.setIfInBounds_toArray, List.set_cons_zero, List.set_cons_succ]
        refine wpAnyH_take (i := 11) (oi := { dst := some 160, op := Op.fieldAddr 39 (Operand.tmp 7) 3, type := 0, pos := "law.go:247", after := #[{ on := 10, ground := Ground.guard }], guard := some (10, false) }) (v := undef) rfl (by kernel_rfl) (by kernel_rfl) (by kernel_rfl) (fun _ _ _ h => h) (Or.inr ⟨by rfl, rfl⟩) (by assumption) ?_
        try simp only [Act.put, List.setIfInBounds_toArray, List.set_cons_zero, List.set_cons_succ]
        refine wpAnyH_take (i := 12) (oi := { dst := some 161, op := Op.load 3 (Operand.tmp 160), type := 3, pos := "law.go:247", after := #[{ on := 11, ground := Ground.data }, { on := 10, ground := Ground.guard }], guard := some (10, false) }) (v := undef) rfl (by kernel_rfl) (by kernel_rfl) (by kernel_rfl) (fun _ _ _ h => h) (Or.inr ⟨by rfl, rfl⟩) (by assumption) ?_
        try simp only [Act.put, List.setIfInBounds_toArray, List.set_cons_zero, List.set_cons_succ]
        refine wpAnyH_take (i := 13) (oi := { dst := some 162, op := Op.binOp BinOp.eql 3 (Operand.tmp 161) (Operand.const (Value.int IntKind.i64 0)) 3, type := 4, pos := "law.go:247", after := #[{ on := 12, ground := Ground.data }, { on := 10, ground := Ground.guard }], guard := some (10, false) }) (v := undef) rfl (by kernel_rfl) (by kernel_rfl) (by kernel_rfl) (fun _ _ _ h => h) (Or.inr ⟨by rfl, rfl⟩) (by assumption) ?_
        try simp only [Act.put, List.setIfInBounds_toArray, List.set_cons_zero, List.set_cons_succ]
        refine wpAnyH_take (i := 14) (oi := { dst := some 163, op := Op.pick (Operand.tmp 159) (Operand.const (Value.bool true)) (Operand.tmp 162), type := 4, pos := "law.go:247", after := #[{ on := 10, ground := Ground.data }, { on := 13, ground := Ground.data }], guard := none }) (v := .bool true) rfl (by kernel_rfl) (by kernel_rfl) (by kernel_rfl) (fun _ _ _ h => h) (Or.inl ⟨by rfl, ?_⟩) (by assumption) ?_
        · intro w hSw
          (try dsimp only at hSw)
          go_simp
          all_goals (first | assumption | rfl | (simp; done) | (simp only [*]; done) | omega | (simp; omega))
        try simp only [Act.put, List.setIfInBounds_toArray, List.set_cons_zero, List.set_cons_succ]
        refine wpAnyH_take (i := 15) (oi := { dst := some 164, op := Op.move (Operand.tmp 163), type := 4, pos := "law.go:247", after := #[{ on := 14, ground := Ground.data }, { on := 10, ground := Ground.chain }], guard := none }) (v := .bool true) rfl (by kernel_rfl) (by kernel_rfl) (by kernel_rfl) (fun _ _ _ h => h) (Or.inl ⟨by rfl, ?_⟩) (by assumption) ?_
        · intro w hSw
          (try dsimp only at hSw)
          go_simp
          all_goals (first | assumption | rfl | (simp; done) | (simp only [*]; done) | omega | (simp; omega))
        try simp only [Act.put, List.setIfInBounds_toArray, List.set_cons_zero, List.set_cons_succ]
        refine wpAnyH_take (i := 16) (oi := { dst := some 165, op := Op.move (Operand.tmp 9), type := 35, pos := "law.go:247", after := #[{ on := 15, ground := Ground.guard }], guard := some (15, false) }) (v := undef) rfl (by kernel_rfl) (by kernel_rfl) (by kernel_rfl) (fun _ _ _ h => h) (Or.inr ⟨by rfl, rfl⟩) (by assumption) ?_
        try simp only [Act.put, List.setIfInBounds_toArray, List.set_cons_zero, List.set_cons_succ]
        refine wpAnyH_take (i := 17) (oi := { dst := some 166, op := Op.fieldAddr 39 (Operand.tmp 7) 4, type := 0, pos := "law.go:247", after := #[{ on := 15, ground := Ground.guard }], guard := some (15, false) }) (v := undef) rfl (by kernel_rfl) (by kernel_rfl) (by kernel_rfl) (fun _ _ _ h => h) (Or.inr ⟨by rfl, rfl⟩) (by assumption) ?_
        try simp only [Act.put, List.setIfInBounds_toArray, List.set_cons_zero, List.set_cons_succ]
        refine wpAnyH_take (i := 18) (oi := { dst := some 167, op := Op.load 3 (Operand.tmp 166), type := 3, pos := "law.go:247", after := #[{ on := 17, ground := Ground.data }, { on := 15, ground := Ground.guard }], guard := some (15, false) }) (v := undef) rfl (by kernel_rfl) (by kernel_rfl) (by kernel_rfl) (fun _ _ _ h => h) (Or.inr ⟨by rfl, rfl⟩) (by assumption) ?_
        try simp only [Act.put, List.setIfInBounds_toArray, List.set_cons_zero, List.set_cons_succ]
        refine wpAnyH_take (i := 19) (oi := { dst := some 168, op := Op.indexAddr 35 (Operand.tmp 165) (Operand.tmp 167), type := 0, pos := "law.go:247", after := #[{ on := 16, ground := Ground.data }, { on := 18, ground := Ground.data }, { on := 15, ground := Ground.guard }], guard := some (15, false) }) (v := undef) rfl (by kernel_rfl) (by kernel_rfl) (by kernel_rfl) (fun _ _ _ h => h) (Or.inr ⟨by rfl, rfl⟩) (by assumption) ?_
        try simp only [Act.put, List.setIfInBounds_toArray, List.set_cons_zero, List.set_cons_succ]
        refine wpAnyH_take (i := 20) (oi := { dst := some 169, op := Op.load 3 (Operand.tmp 168), type := 3, pos := "law.go:247", after := #[{ on := 19, ground := Ground.data }, { on := 15, ground := Ground.guard }], guard := some (15, false) }) (v := undef) rfl (by kernel_rfl) (by kernel_rfl) (by kernel_rfl) (fun _ _ _ h => h) (Or.inr ⟨by rfl, rfl⟩) (by assumption) ?_
        try simp only [Act.put, List.setIfInBounds_toArray, List.set_cons_zero, List.set_cons_succ]
        refine wpAnyH_take (i := 21) (oi := { dst := some 170, op := Op.fieldAddr 39 (Operand.tmp 7) 5, type := 0, pos := "law.go:247", after := #[{ on := 15, ground := Ground.guard }], guard := some (15, false) }) (v := undef) rfl (by kernel_rfl) (by kernel_rfl) (by kernel_rfl) (fun _ _ _ h => h) (Or.inr ⟨by rfl, rfl⟩) (by assumption) ?_
        try simp only [Act.put, List.setIfInBounds_toArray, List.set_cons_zero, List.set_cons_succ]
        refine wpAnyH_take (i := 22) (oi := { dst := some 171, op := Op.load 3 (Operand.tmp 170), type := 3, pos := "law.go:247", after := #[{ on := 21, ground := Ground.data }, { on := 15, ground := Ground.guard }], guard := some (15, false) }) (v := undef) rfl (by kernel_rfl) (by kernel_rfl) (by kernel_rfl) (fun _ _ _ h => h) (Or.inr ⟨by rfl, rfl⟩) (by assumption) ?_
        try simp only [Act.put, List.setIfInBounds_toArray, List.set_cons_zero, List.set_cons_succ]
        refine wpAnyH_take (i := 23) (oi := { dst := some 172, op := Op.call { callee := Callee.value (Operand.func 31), args := #[Operand.tmp 169, Operand.tmp 171], argTypes := #[3, 3] }, type := 4, pos := "law.go:247", after := #[{ on := 20, ground := Ground.data }, { on := 22, ground := Ground.data }, { on := 15, ground := Ground.chain }, { on := 15, ground := Ground.guard }], guard := some (15, false) }) (v := undef) rfl (by kernel_rfl) (by kernel_rfl) (by kernel_rfl) (fun _ _ _ h => h) (Or.inr ⟨by rfl, rfl⟩) (by assumption) ?_
        try simp only [Act.put, List.setIfInBounds_toArray, List.set_cons_zero, List.set_cons_succ]
        refine wpAnyH_take (i := 24) (oi := { dst := some 173, op := Op.pick (Operand.tmp 164) (Operand.const (Value.bool true)) (Operand.tmp 172), type := 4, pos := "law.go:247", after := #[{ on := 15, ground := Ground.data }, { on := 23, ground := Ground.data }], guard := none }) (v := .bool true) rfl (by kernel_rfl) (by kernel_rfl) (by kernel_rfl) (fun _ _ _ h => h) (Or.inl ⟨by rfl, ?_⟩) (by assumption) ?_
        · intro w hSw
          (try dsimp only at hSw)
          go_simp
          all_goals (first | assumption | rfl | (simp; done) | (simp only [*]; done) | omega | (simp; omega))
        try simp only [Act.put, List.setIfInBounds_toArray, List.set_cons_zero, List.set_cons_succ]
        refine wpAnyH_done (by kernel_rfl) ?_ _
        clear y3 y4 y5
        go_wp2_with fail
        go_at_call 13
        refine (awake_any _).mono ?_
        rintro e WZ ⟨rfl, hB⟩
        have SZ := Lib.hid ((HSA.out _).1.trans (hB.mono (HSA.out _).1.size))
        clear hB
        go_wp2_with fail
        go_ret
        exact ⟨rfl, SZ.out⟩
end Go.Proofs.YtilofjbobmeniaaR
