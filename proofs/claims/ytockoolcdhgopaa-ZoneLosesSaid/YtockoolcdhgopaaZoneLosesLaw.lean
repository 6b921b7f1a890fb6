/- ZoneLoses: the walk of the law. -/
import Derived.Test.YtockoolcdhgopaaZLw
namespace Go.Proofs.Ytockoolcdhgopaa
open Go.ChangeShapes Go.WideShapes Go.ChangeAt Go.RowKit
open Zon
set_option linter.unusedVariables false
set_option maxRecDepth 100000
set_option maxHeartbeats 6000000 in
theorem zoneLoses_void (w : World) (A0 : Option Addr) (n0 c0 : Nat) (L0 : List Con) (i0 : ConIn w A0 n0 c0 L0) (A1 : Option Addr) (n1 c1 : Nat) (L1 : List Con) (i1 : ConIn w A1 n1 c1 L1) (k0 k1 k2 X Y C : Int) (hX : I64 X) (hY : I64 Y) (hC : I64 C) (A : Option Addr) (n c : Nat) (L : List Int) (i : NumIn w A n c L) (A7 A8 A9 : Option Addr) (n7 c7 n8 c8 n9 c9 : Nat) (x3 : Int) (b3 : I64 x3) (x4 : Int) (b4 : I64 x4) (hv : withZ (some topT) (smallL L0) = none) :
    Calls Try.prog 6 #[.slice A0 n0 c0, .slice A1 n1 c1, .agg #[.int .i64 k0, .int .i64 k1, .int .i64 k2, .int .i64 X, .int .i64 Y, .int .i64 C, .slice A n c, .slice A7 n7 c7, .slice A8 n8 c8, .slice A9 n9 c9], .int .i64 x3, .int .i64 x4] w (True_ w) := by
  have HV := Lib.hid hv
  clear hv
  have I0 := Lib.hid i0
  have I1 := Lib.hid i1
  have I := Lib.hid i
  have HX := Lib.hid hX
  have HY := Lib.hid hY
  have HC := Lib.hid hC
  have B3 := Lib.hid b3
  have B4 := Lib.hid b4
  have HLS0 := Lib.hid (show (smallL L0).length ≤ 7000000000000 by have : (smallL L0).length ≤ L0.length := List.length_filter_le _ _; have := i0.len; have := i0.reach; omega)
  have HWS0 := Lib.hid (wrongL_small L0)
  have HLS1 := Lib.hid (show (smallL L1).length ≤ 7000000000000 by have : (smallL L1).length ≤ L1.length := List.length_filter_le _ _; have := i1.len; have := i1.reach; omega)
  have HWS1 := Lib.hid (wrongL_small L1)
  clear i0 i1 i hX hY hC b3 b4
  obtain ⟨w1, hw1⟩ : ∃ w1, w1 = w.alloc (.cells #[.int .i64 k0, .int .i64 k1, .int .i64 k2, .int .i64 X, .int .i64 Y, .int .i64 C, .slice A n c, .slice A7 n7 c7, .slice A8 n8 c8, .slice A9 n9 c9] 57) := ⟨_, rfl⟩
  have HOP := Lib.hid (show OpAt w1 w.heap.size X Y C (.slice A n c) by rw [hw1]; exact ⟨by simp, by simp [go_sem], by simp [go_sem], by simp [go_sem], by simp [go_sem]⟩)
  have HBx := Lib.hid (show Below w.heap.size w w1 by rw [hw1]; exact below_box w _)
  have HW1 := Lib.hid hw1
  clear hw1
  go_enter Try.func6, Try.ntmps6
  go_upto_region 1 with (fail)
  rw [← HW1.out]
  clear HW1
  obtain ⟨bx, hbx⟩ : ∃ bx, bx = w.heap.size := ⟨_, rfl⟩
  rw [← hbx] at HOP ⊢
  have HBX := Lib.hid hbx
  clear hbx
  have S0 := Lib.hid (show St w w1 [] from (St.start w).up HBx.out)
  clear HBx
  go_wp2_with fail
  go_at_call 9
  refine (New_law _).mono ?_
  rintro e W1 ⟨g0, rfl, hg, hz, hB⟩
  have S1 := Lib.hid (show St w W1 [(g0, some topT)] from (S0.out.up hB).add hz)
  have THOP := Lib.hid (HOP.out.up hB)
  clear HOP
  have HOP := THOP
  clear THOP
  clear hB S0 hz hg
  go_wp2_with fail
  go_at_call 19
  refine (small_any _ A0 n0 c0 L0 (lw_conb I0.out S1.out.1)).mono ?_
  rintro e W2 ⟨As, ns, cs, rfl, hLs, hcs, hAs, hB⟩
  have HAs1 := Lib.hid hAs
  have HNs1 := Lib.hid hLs
  have HCs1 := Lib.hid hcs
  have S2 := Lib.hid (show St w W2 [(g0, some topT)] from (S1.out.up hB))
  have THOP := Lib.hid (HOP.out.up hB)
  clear HOP
  have HOP := THOP
  clear THOP
  clear hB S1 hAs hLs hcs
  go_wp2_with fail
  go_at_call 11
  refine (cons_law _ As ns cs (smallL L0) (HNs1.out) (by have := HNs1.out; have := HLS0.out; omega) HAs1.out).mono ?_
  rintro e W3 ⟨Al2, nl2, cl2, rfl, hL2, hc2, hA2, hB⟩
  have HA2 := Lib.hid hA2
  have HL102 := Lib.hid hL2
  have S3 := Lib.hid (show St w W3 [(g0, some topT)] from (S2.out.up hB))
  have THOP := Lib.hid (HOP.out.up hB)
  clear HOP
  have HOP := THOP
  clear THOP
  clear hB S2 hA2 hL2 hc2
  go_wp2_with fail
  go_at_call 10
  refine (With_law _ g0 (some topT) Al2 nl2 cl2 (smallL L0) (S3.out.2 (g0, some topT) (by simp)) HL102.out (by have := HL102.out; have := HLS0.out; omega) HA2.out HWS0.out).mono ?_
  rintro e W4 ⟨gz, rfl, hz, hB⟩
  rw [HV.out] at hz
  have S4 := Lib.hid (show St w W4 [(gz, none), (g0, some topT)] from (S3.out.up hB).add hz)
  have THOP := Lib.hid (HOP.out.up hB)
  clear HOP
  have HOP := THOP
  clear THOP
  clear hB S3 hz HA2 HL102
  go_wp2_with fail
  go_at_call 24
  refine (Empty_any _ gz none (S4.out.2 (gz, none) (by simp))).mono ?_
  rintro e W5 ⟨rfl, rfl⟩
  rw [show voidB none = true from rfl]
  have S5 := S4
  clear S4
  go_wp2_with fail
  go_at_call 14
  refine (awake_any _).mono ?_
  rintro e W6 ⟨rfl, hB⟩
  have S6 := Lib.hid (show St w W6 [(gz, none), (g0, some topT)] from (S5.out.up hB))
  have THOP := Lib.hid (HOP.out.up hB)
  clear HOP
  have HOP := THOP
  clear THOP
  clear hB S5
  go_wp2_with fail
  go_ret
  exact ⟨rfl, S6.out.1⟩
set_option maxHeartbeats 6000000 in
theorem zoneLoses_none (w : World) (A0 : Option Addr) (n0 c0 : Nat) (L0 : List Con) (i0 : ConIn w A0 n0 c0 L0) (A1 : Option Addr) (n1 c1 : Nat) (L1 : List Con) (i1 : ConIn w A1 n1 c1 L1) (k0 k1 k2 X Y C : Int) (hX : I64 X) (hY : I64 Y) (hC : I64 C) (A : Option Addr) (n c : Nat) (L : List Int) (i : NumIn w A n c L) (A7 A8 A9 : Option Addr) (n7 c7 n8 c8 n9 c9 : Nat) (x3 : Int) (b3 : I64 x3) (x4 : Int) (b4 : I64 x4) (M : Tab) (hv : withZ (some topT) (smallL L0) = some M) (p q : Nat) (hp : x3 % 60 = p) (hp6 : p < 60) (hq : x4 % 60 = q) (hq6 : q < 60) (hn : withZ (some M) (smallL L1) = none) :
    Calls Try.prog 6 #[.slice A0 n0 c0, .slice A1 n1 c1, .agg #[.int .i64 k0, .int .i64 k1, .int .i64 k2, .int .i64 X, .int .i64 Y, .int .i64 C, .slice A n c, .slice A7 n7 c7, .slice A8 n8 c8, .slice A9 n9 c9], .int .i64 x3, .int .i64 x4] w (True_ w) := by
  have HTI := Lib.hid (Cl.tight' (small_cl hv))
  have HTF := Lib.hid (HTI.out.toTight.forget L)
  have HV := Lib.hid hv
  have HP := Lib.hid hp
  have HQ := Lib.hid hq
  have HQ6 := Lib.hid hq6
  have HN := Lib.hid hn
  clear hv hp hq hq6 hp6 hn
  have I0 := Lib.hid i0
  have I1 := Lib.hid i1
  have I := Lib.hid i
  have HX := Lib.hid hX
  have HY := Lib.hid hY
  have HC := Lib.hid hC
  have B3 := Lib.hid b3
  have B4 := Lib.hid b4
  have HLS0 := Lib.hid (show (smallL L0).length ≤ 7000000000000 by have : (smallL L0).length ≤ L0.length := List.length_filter_le _ _; have := i0.len; have := i0.reach; omega)
  have HWS0 := Lib.hid (wrongL_small L0)
  have HLS1 := Lib.hid (show (smallL L1).length ≤ 7000000000000 by have : (smallL L1).length ≤ L1.length := List.length_filter_le _ _; have := i1.len; have := i1.reach; omega)
  have HWS1 := Lib.hid (wrongL_small L1)
  clear i0 i1 i hX hY hC b3 b4
  obtain ⟨w1, hw1⟩ : ∃ w1, w1 = w.alloc (.cells #[.int .i64 k0, .int .i64 k1, .int .i64 k2, .int .i64 X, .int .i64 Y, .int .i64 C, .slice A n c, .slice A7 n7 c7, .slice A8 n8 c8, .slice A9 n9 c9] 57) := ⟨_, rfl⟩
  have HOP := Lib.hid (show OpAt w1 w.heap.size X Y C (.slice A n c) by rw [hw1]; exact ⟨by simp, by simp [go_sem], by simp [go_sem], by simp [go_sem], by simp [go_sem]⟩)
  have HBx := Lib.hid (show Below w.heap.size w w1 by rw [hw1]; exact below_box w _)
  have HW1 := Lib.hid hw1
  clear hw1
  go_enter Try.func6, Try.ntmps6
  go_upto_region 1 with (fail)
  rw [← HW1.out]
  clear HW1
  obtain ⟨bx, hbx⟩ : ∃ bx, bx = w.heap.size := ⟨_, rfl⟩
  rw [← hbx] at HOP ⊢
  have HBX := Lib.hid hbx
  clear hbx
  have S0 := Lib.hid (show St w w1 [] from (St.start w).up HBx.out)
  clear HBx
  go_wp2_with fail
  go_at_call 9
  refine (New_law _).mono ?_
  rintro e W1 ⟨g0, rfl, hg, hz, hB⟩
  have S1 := Lib.hid (show St w W1 [(g0, some topT)] from (S0.out.up hB).add hz)
  have THOP := Lib.hid (HOP.out.up hB)
  clear HOP
  have HOP := THOP
  clear THOP
  clear hB S0 hz hg
  go_wp2_with fail
  go_at_call 19
  refine (small_any _ A0 n0 c0 L0 (lw_conb I0.out S1.out.1)).mono ?_
  rintro e W2 ⟨As, ns, cs, rfl, hLs, hcs, hAs, hB⟩
  have HAs1 := Lib.hid hAs
  have HNs1 := Lib.hid hLs
  have HCs1 := Lib.hid hcs
  have S2 := Lib.hid (show St w W2 [(g0, some topT)] from (S1.out.up hB))
  have THOP := Lib.hid (HOP.out.up hB)
  clear HOP
  have HOP := THOP
  clear THOP
  clear hB S1 hAs hLs hcs
  go_wp2_with fail
  go_at_call 11
  refine (cons_law _ As ns cs (smallL L0) (HNs1.out) (by have := HNs1.out; have := HLS0.out; omega) HAs1.out).mono ?_
  rintro e W3 ⟨Al2, nl2, cl2, rfl, hL2, hc2, hA2, hB⟩
  have HA2 := Lib.hid hA2
  have HL102 := Lib.hid hL2
  have S3 := Lib.hid (show St w W3 [(g0, some topT)] from (S2.out.up hB))
  have THOP := Lib.hid (HOP.out.up hB)
  clear HOP
  have HOP := THOP
  clear THOP
  clear hB S2 hA2 hL2 hc2
  go_wp2_with fail
  go_at_call 10
  refine (With_law _ g0 (some topT) Al2 nl2 cl2 (smallL L0) (S3.out.2 (g0, some topT) (by simp)) HL102.out (by have := HL102.out; have := HLS0.out; omega) HA2.out HWS0.out).mono ?_
  rintro e W4 ⟨gz, rfl, hz, hB⟩
  rw [HV.out] at hz
  have S4 := Lib.hid (show St w W4 [(gz, some M), (g0, some topT)] from (S3.out.up hB).add hz)
  have THOP := Lib.hid (HOP.out.up hB)
  clear HOP
  have HOP := THOP
  clear THOP
  clear hB S3 hz HA2 HL102
  go_wp2_with fail
  go_at_call 24
  refine (Empty_any _ gz (some M) (S4.out.2 (gz, some M) (by simp))).mono ?_
  rintro e W5 ⟨rfl, rfl⟩
  rw [show voidB (some M) = false from rfl]
  have S5 := S4
  clear S4
  go_wp2_with fail
  go_at_call 22
  refine (place_any _ 60 _ B3.out (by omega) (by omega)).mono ?_
  rintro e w' ⟨rfl, rfl⟩
  rw [HP.out]
  go_wp2_with fail
  go_at_call 22
  refine (place_any _ 60 _ B4.out (by omega) (by omega)).mono ?_
  rintro e w' ⟨rfl, rfl⟩
  rw [HQ.out]
  go_wp2_with fail
  go_at_call 19
  refine (small_any _ A1 n1 c1 L1 (lw_conb I1.out S5.out.1)).mono ?_
  rintro e W6 ⟨As, ns, cs, rfl, hLs, hcs, hAs, hB⟩
  have HAs5 := Lib.hid hAs
  have HNs5 := Lib.hid hLs
  have HCs5 := Lib.hid hcs
  have S6 := Lib.hid (show St w W6 [(gz, some M), (g0, some topT)] from (S5.out.up hB))
  have THOP := Lib.hid (HOP.out.up hB)
  clear HOP
  have HOP := THOP
  clear THOP
  clear hB S5 hAs hLs hcs
  go_wp2_with fail
  go_at_call 11
  refine (cons_law _ As ns cs (smallL L1) (HNs5.out) (by have := HNs5.out; have := HLS1.out; omega) HAs5.out).mono ?_
  rintro e W7 ⟨Al6, nl6, cl6, rfl, hL6, hc6, hA6, hB⟩
  have HA6 := Lib.hid hA6
  have HL106 := Lib.hid hL6
  have S7 := Lib.hid (show St w W7 [(gz, some M), (g0, some topT)] from (S6.out.up hB))
  have THOP := Lib.hid (HOP.out.up hB)
  clear HOP
  have HOP := THOP
  clear THOP
  clear hB S6 hA6 hL6 hc6
  go_wp2_with fail
  go_at_call 10
  refine (With_law _ gz (some M) Al6 nl6 cl6 (smallL L1) (S7.out.2 (gz, some M) (by simp)) HL106.out (by have := HL106.out; have := HLS1.out; omega) HA6.out HWS1.out).mono ?_
  rintro e W8 ⟨gn, rfl, hz, hB⟩
  rw [HN.out] at hz
  have S8 := Lib.hid (show St w W8 [(gn, none), (gz, some M), (g0, some topT)] from (S7.out.up hB).add hz)
  have THOP := Lib.hid (HOP.out.up hB)
  clear HOP
  have HOP := THOP
  clear THOP
  clear hB S7 hz HA6 HL106
  go_wp2_with fail
  go_at_call 24
  refine (Empty_any _ gn none (S8.out.2 (gn, none) (by simp))).mono ?_
  rintro e W9 ⟨rfl, rfl⟩
  rw [show voidB none = true from rfl]
  have S9 := S8
  clear S8
  have v6 := HOP.out.vs
  go_wp2_with fail
  go_at_call 34
  refine (copyInts_any _ A n c L (lw_numb I.out S9.out.1)).mono ?_
  rintro e W10 ⟨Av, cv, rfl, hAv, hB⟩
  have HAv := Lib.hid hAv
  clear v6
  have S10 := Lib.hid (show St w W10 [(gn, none), (gz, some M), (g0, some topT)] from (S9.out.up hB))
  have THOP := Lib.hid (HOP.out.up hB)
  clear HOP
  have HOP := THOP
  clear THOP
  clear hB S9 hAv
  go_wp2_with fail
  go_at_call 35
  refine (Forget_any _ gz (some M) Av n cv L (S10.out.2 (gz, some M) (by simp)) I.out.len (by have := I.out.reach; omega) HAv.out).mono ?_
  rintro e W11 ⟨gf, rfl, hg, hz, hB⟩
  have S11 := Lib.hid (show St w W11 [(gf, some (forgetT M L)), (gn, none), (gz, some M), (g0, some topT)] from (S10.out.up hB).add hz)
  have THOP := Lib.hid (HOP.out.up hB)
  clear HOP
  have HOP := THOP
  clear THOP
  clear hB S10 hz hg HAv
  go_wp2_with fail
  go_at_call 41
  refine (Reach_any _ gf (forgetT M L) _ q (S11.out.2 (gf, some (forgetT M L)) (by simp)) HQ6.out).mono ?_
  rintro e W12 ⟨gb, rfl, hg, hv, hB⟩
  have HVgb := Lib.hid hv
  have S12 := Lib.hid (show St w W12 [(gf, some (forgetT M L)), (gn, none), (gz, some M), (g0, some topT)] from (S11.out.up hB))
  have THOP := Lib.hid (HOP.out.up hB)
  clear HOP
  have HOP := THOP
  clear THOP
  clear hB S11 hg hv
  have v6 := HOP.out.vs
  go_wp2_with fail
  go_at_call 42
  refine (extend_any _ gz gb M (reachV (forgetT M L) q) A n c L (S12.out.2 (gz, some M) (by simp)) HVgb.out I.out.len I.out.reach (lw_numb I.out S12.out.1).at_ HTI.out.toTight (ext_forget HTI.out.toTight L q)).mono ?_
  rintro e W13 ⟨ge, rfl, hB⟩
  clear v6
  have S13 := Lib.hid (show St w W13 [(gf, some (forgetT M L)), (gn, none), (gz, some M), (g0, some topT)] from (S12.out.up hB))
  have THOP := Lib.hid (HOP.out.up hB)
  clear HOP
  have HOP := THOP
  clear THOP
  have THVgb := Lib.hid (HVgb.out.up hB)
  clear HVgb
  have HVgb := THVgb
  clear THVgb
  clear hB S12
  go_wp2_with fail
  go_at_call 13
  refine (meets_yes _ gf (forgetT M L) (S13.out.2 (gf, some (forgetT M L)) (by simp)) gb (reachV (forgetT M L) q) HVgb.out (HTF.out.i64r q) (HTF.out.meets q)).mono ?_
  rintro e W14 ⟨rfl, hB⟩
  have S14 := Lib.hid (show St w W14 [(gf, some (forgetT M L)), (gn, none), (gz, some M), (g0, some topT)] from (S13.out.up hB))
  have THOP := Lib.hid (HOP.out.up hB)
  clear HOP
  have HOP := THOP
  clear THOP
  have THVgb := Lib.hid (HVgb.out.up hB)
  clear HVgb
  have HVgb := THVgb
  clear THVgb
  clear hB S13
  go_upto_region 20 with (fail)
  have v3 := HOP.out.x
  have v4 := HOP.out.y
  have v5 := HOP.out.c
  rcases seven_ways X Y C with t1 | ⟨t1, t2⟩ | ⟨t1, t2, t3⟩ | ⟨t1, t2, t3, t4⟩ | ⟨t1, t2, t3, t4, t5⟩ | ⟨t1, t2, t3, t4, t5, t6⟩ | ⟨t1, t2, t3, t4, t5, t6⟩
  iterate 6
    · go_wp2_with fail
      go_at_call 14
      refine (awake_any _).mono ?_
      rintro e WZ ⟨rfl, hB⟩
      have SZ := Lib.hid (S14.out.1.trans (hB.mono S14.out.1.size))
      clear hB
      go_wp2_with fail
      go_ret
      exact ⟨rfl, SZ.out⟩
  have c1 := of_decide_eq_false t1
  have c2 := of_decide_eq_false t2
  have c3 := of_decide_eq_false t3
  have c4 := of_decide_eq_false t4
  have c5 := of_decide_eq_false t5
  have c6 := of_decide_eq_false t6
  obtain ⟨nx, rfl⟩ : ∃ nx : Nat, X = nx := ⟨X.toNat, by omega⟩
  obtain ⟨ny, rfl⟩ : ∃ ny : Nat, Y = ny := ⟨Y.toNat, by omega⟩
  have HX6 := Lib.hid (show nx < 60 by omega)
  have HX1 := Lib.hid (show 1 ≤ nx by omega)
  have HY6 := Lib.hid (show ny < 60 by omega)
  have HC40 := Lib.hid (show -1099511627776 ≤ C ∧ C ≤ 1099511627776 by omega)
  have HRC := Lib.hid (show rngB C = true by unfold rngB; simp; omega)
  clear c1 c2 c3 c4 c5 c6
  have HTT := Lib.hid (HTI.out.assign HX6.out HY6.out HC40.out)
  go_upto_region 22 with (fail)
  clear t1 t2 t3 t4 t5 t6
  go_wp2_with fail
  go_at_call 36
  refine (Assign_law _ gz (some M) nx ny C (S14.out.2 (gz, some M) (by simp)) HX6.out HX1.out HY6.out HRC.out).mono ?_
  rintro e W15 ⟨gt, rfl, hz, hB⟩
  replace hz : ZoneAt W15 gt (some (assignT M nx ny C)) := hz
  clear v3 v4 v5
  have S15 := Lib.hid (show St w W15 [(gt, some (assignT M nx ny C)), (gf, some (forgetT M L)), (gn, none), (gz, some M), (g0, some topT)] from (S14.out.up hB).add hz)
  have THOP := Lib.hid (HOP.out.up hB)
  clear HOP
  have HOP := THOP
  clear THOP
  have THVgb := Lib.hid (HVgb.out.up hB)
  clear HVgb
  have HVgb := THVgb
  clear THVgb
  clear hB S14 hz
  go_wp2_with fail
  go_at_call 41
  refine (Reach_any _ gt (assignT M nx ny C) _ q (S15.out.2 (gt, some (assignT M nx ny C)) (by simp)) HQ6.out).mono ?_
  rintro e W16 ⟨gr, rfl, hg, hv, hB⟩
  have HVgr := Lib.hid hv
  have S16 := Lib.hid (show St w W16 [(gt, some (assignT M nx ny C)), (gf, some (forgetT M L)), (gn, none), (gz, some M), (g0, some topT)] from (S15.out.up hB))
  have THOP := Lib.hid (HOP.out.up hB)
  clear HOP
  have HOP := THOP
  clear THOP
  have THVgb := Lib.hid (HVgb.out.up hB)
  clear HVgb
  have HVgb := THVgb
  clear THVgb
  clear hB S15 hg hv
  have HTM := Lib.hid (HTT.out.meets q)
  have HTR := Lib.hid (reachV_rng HTT.out q)
  have HTJ := Lib.hid (HTT.out.i64r q)
  have HEX := Lib.hid (ext_assign HTI.out HX1.out HX6.out HY6.out HC40.out q)
  generalize reachV (assignT M nx ny C) q = b at *
  have v3 := HOP.out.x
  have v4 := HOP.out.y
  by_cases hxy : nx = ny
  · have te : ((nx : Int) == (ny : Int)) = true := by rw [hxy]; exact beq_self_eq_true _
    have HXY := Lib.hid hxy
    clear hxy
    go_upto_region 27 with (fail)
    clear te v3 v4
    obtain ⟨b1, b2⟩ := HTR.out nx HX6.out
    obtain ⟨b3, b4⟩ := HTR.out ny HY6.out
    obtain ⟨cc1, cc2⟩ := HC40.out
    have hx0 : (0 : Int) ≤ nx := by omega
    have hx6 : (nx : Int) < 60 := by have := HX6.out; omega
    have hx6n := HX6.out
    have hy0 : (0 : Int) ≤ ny := by omega
    have hy6 : (ny : Int) < 60 := by have := HY6.out; omega
    have hy6n := HY6.out
    have HOs := Lib.hid (HOP.out.up (below_drewN' (Below.refl _ _) 1))
    have HVs := Lib.hid (HVgr.out.up (below_drewN' (Below.refl _ _) 1))
    have HSs := Lib.hid (S16.out.up (below_drewN' (Below.refl _ _) 1))
    have hw : IntKind.i64.wrap (b nx - C) = b nx - C := IntWalk.i64_in _ (by omega)
    have HBK := Lib.hid (assign_back (M := M) HTI.out HX6.out HC40.out (a := b) (by have := HTM.out; rwa [← HXY.out] at this))
    have HNI := Lib.hid (show I64 (b nx - C) by unfold I64; omega)
    refine wp_region_held_drew (S := (fun W => W.cell? ⟨bx, 3, none⟩ = some (.int .i64 nx) ∧ W.cell? ⟨bx, 4, none⟩ = some (.int .i64 ny) ∧ W.cell? ⟨bx, 5, none⟩ = some (.int .i64 C) ∧ W.cell? ⟨gr, nx, none⟩ = some (.int .i64 (b nx)) ∧ W.cell? ⟨gr, ny, none⟩ = some (.int .i64 (b ny)))) (by kernel_rfl) ⟨HOs.out.x, HOs.out.y, HOs.out.c, HVs.out.at_ nx HX6.out, HVs.out.at_ ny HY6.out⟩ (fun hHeld => ?_)
    refine wpAnyH_take (i := 0) (oi := { dst := some 165, op := Op.move (Operand.tmp 21), type := 25, pos := "law.go:585", after := #[], guard := none }) (v := .pointer (some ⟨gt, 0, none⟩)) rfl (by kernel_rfl) (by kernel_rfl) (by kernel_rfl) (fun _ _ _ h => h) (Or.inl ⟨by rfl, ?_⟩) (by assumption) ?_
    · intro w hSw
      (try dsimp only at hSw)
      go_simp
      all_goals (first | assumption | rfl | (simp; done) | (simp only [*]; done) | omega | (simp; omega))
    try simp only [Act.put, List.setIfInBounds_toArray, List.set_cons_zero, List.set_cons_succ]
    refine wpAnyH_take (i := 1) (oi := { dst := some 166, op := Op.move (Operand.tmp 18), type := 22, pos := "law.go:585", after := #[], guard := none }) (v := vecV gr) rfl (by kernel_rfl) (by kernel_rfl) (by kernel_rfl) (fun _ _ _ h => h) (Or.inl ⟨by rfl, ?_⟩) (by assumption) ?_
    · intro w hSw
      (try dsimp only at hSw)
      go_simp
      all_goals (first | assumption | rfl | (simp; done) | (simp only [*]; done) | omega | (simp; omega))
    try simp only [Act.put, List.setIfInBounds_toArray, List.set_cons_zero, List.set_cons_succ]
    refine wpAnyH_ready (rs := [2]) (by kernel_rfl) (by simp) ?_
    refine AllReadyH.cons (o := { dst := some 167, op := Op.call { callee := Callee.value (Operand.func 13), args := #[Operand.tmp 165, Operand.tmp 166], argTypes := #[25, 22] }, type := 4, pos := "law.go:585", after := #[{ on := 0, ground := Ground.data }, { on := 1, ground := Ground.data }], guard := none }) rfl (fun K hK => ?_) ?_
    rotate_left
    · exact AllReadyH.nil
    go_simp
    go_at_call 13
    refine (meets_yes _ gt (assignT M nx ny C) (HSs.out.2 (gt, some (assignT M nx ny C)) (by simp)) gr b HVs.out HTJ.out HTM.out).mono ?_
    rintro e Wt ⟨rfl, hB⟩
    have HOt := Lib.hid (HOs.out.up hB)
    have HVt := Lib.hid (HVs.out.up hB)
    have HSt := Lib.hid (HSs.out.up hB)
    clear hB
    refine hK.out _ _ ?_ (fun hHeld => ?_)
    · (try dsimp only)
      exact ⟨HOt.out.x, HOt.out.y, HOt.out.c, HVt.out.at_ nx HX6.out, HVt.out.at_ ny HY6.out⟩
    clear hK K
    try simp only [Act.put, List.setIfInBounds_toArray, List.set_cons_zero, List.set_cons_succ]
    refine wpAnyH_take (i := 3) (oi := { dst := some 168, op := Op.move (Operand.tmp 167), type := 4, pos := "law.go:585", after := #[{ on := 2, ground := Ground.data }, { on := 2, ground := Ground.chain }], guard := none }) (v := .bool true) rfl (by kernel_rfl) (by kernel_rfl) (by kernel_rfl) (fun _ _ _ h => h) (Or.inl ⟨by rfl, ?_⟩) (by assumption) ?_
    · intro w hSw
      (try dsimp only at hSw)
      go_simp
      all_goals (first | assumption | rfl | (simp; done) | (simp only [*]; done) | omega | (simp; omega))
    try simp only [Act.put, List.setIfInBounds_toArray, List.set_cons_zero, List.set_cons_succ]
    refine wpAnyH_take (i := 4) (oi := { dst := some 169, op := Op.move (Operand.tmp 11), type := 25, pos := "law.go:585", after := #[{ on := 3, ground := Ground.guard }], guard := some (3, true) }) (v := .pointer (some ⟨gz, 0, none⟩)) rfl (by kernel_rfl) (by kernel_rfl) (by kernel_rfl) (fun _ _ _ h => h) (Or.inl ⟨by rfl, ?_⟩) (by assumption) ?_
    · intro w hSw
      (try dsimp only at hSw)
      go_simp
      all_goals (first | assumption | rfl | (simp; done) | (simp only [*]; done) | omega | (simp; omega))
    try simp only [Act.put, List.setIfInBounds_toArray, List.set_cons_zero, List.set_cons_succ]
    refine wpAnyH_take (i := 5) (oi := { dst := some 170, op := Op.move (Operand.tmp 18), type := 22, pos := "law.go:585", after := #[{ on := 3, ground := Ground.guard }], guard := some (3, true) }) (v := vecV gr) rfl (by kernel_rfl) (by kernel_rfl) (by kernel_rfl) (fun _ _ _ h => h) (Or.inl ⟨by rfl, ?_⟩) (by assumption) ?_
    · intro w hSw
      (try dsimp only at hSw)
      go_simp
      all_goals (first | assumption | rfl | (simp; done) | (simp only [*]; done) | omega | (simp; omega))
    try simp only [Act.put, List.setIfInBounds_toArray, List.set_cons_zero, List.set_cons_succ]
    refine wpAnyH_take (i := 6) (oi := { dst := some 171, op := Op.fieldAddr 57 (Operand.tmp 7) 3, type := 0, pos := "law.go:585", after := #[{ on := 3, ground := Ground.guard }], guard := some (3, true) }) (v := .pointer (some ⟨bx, 3, none⟩)) rfl (by kernel_rfl) (by kernel_rfl) (by kernel_rfl) (fun _ _ _ h => h) (Or.inl ⟨by rfl, ?_⟩) (by assumption) ?_
    · intro w hSw
      (try dsimp only at hSw)
      go_simp
      all_goals (first | assumption | rfl | (simp; done) | (simp only [*]; done) | omega | (simp; omega))
    try simp only [Act.put, List.setIfInBounds_toArray, List.set_cons_zero, List.set_cons_succ]
    refine wpAnyH_take (i := 7) (oi := { dst := some 172, op := Op.load 3 (Operand.tmp 171), type := 3, pos := "law.go:585", after := #[{ on := 6, ground := Ground.data }, { on := 3, ground := Ground.guard }], guard := some (3, true) }) (v := .int .i64 nx) rfl (by kernel_rfl) (by kernel_rfl) (by kernel_rfl) (fun _ _ _ h => h) (Or.inl ⟨by rfl, ?_⟩) (by assumption) ?_
    · intro w hSw
      (try dsimp only at hSw)
      go_simp
      all_goals (first | assumption | rfl | (simp; done) | (simp only [*]; done) | omega | (simp; omega))
    try simp only [Act.put, List.setIfInBounds_toArray, List.set_cons_zero, List.set_cons_succ]
    refine wpAnyH_take (i := 8) (oi := { dst := some 173, op := Op.move (Operand.tmp 18), type := 22, pos := "law.go:585", after := #[{ on := 3, ground := Ground.guard }], guard := some (3, true) }) (v := vecV gr) rfl (by kernel_rfl) (by kernel_rfl) (by kernel_rfl) (fun _ _ _ h => h) (Or.inl ⟨by rfl, ?_⟩) (by assumption) ?_
    · intro w hSw
      (try dsimp only at hSw)
      go_simp
      all_goals (first | assumption | rfl | (simp; done) | (simp only [*]; done) | omega | (simp; omega))
    try simp only [Act.put, List.setIfInBounds_toArray, List.set_cons_zero, List.set_cons_succ]
    refine wpAnyH_take (i := 9) (oi := { dst := some 174, op := Op.fieldAddr 57 (Operand.tmp 7) 3, type := 0, pos := "law.go:585", after := #[{ on := 3, ground := Ground.guard }], guard := some (3, true) }) (v := .pointer (some ⟨bx, 3, none⟩)) rfl (by kernel_rfl) (by kernel_rfl) (by kernel_rfl) (fun _ _ _ h => h) (Or.inl ⟨by rfl, ?_⟩) (by assumption) ?_
    · intro w hSw
      (try dsimp only at hSw)
      go_simp
      all_goals (first | assumption | rfl | (simp; done) | (simp only [*]; done) | omega | (simp; omega))
    try simp only [Act.put, List.setIfInBounds_toArray, List.set_cons_zero, List.set_cons_succ]
    refine wpAnyH_take (i := 10) (oi := { dst := some 175, op := Op.load 3 (Operand.tmp 174), type := 3, pos := "law.go:585", after := #[{ on := 9, ground := Ground.data }, { on := 3, ground := Ground.guard }], guard := some (3, true) }) (v := .int .i64 nx) rfl (by kernel_rfl) (by kernel_rfl) (by kernel_rfl) (fun _ _ _ h => h) (Or.inl ⟨by rfl, ?_⟩) (by assumption) ?_
    · intro w hSw
      (try dsimp only at hSw)
      go_simp
      all_goals (first | assumption | rfl | (simp; done) | (simp only [*]; done) | omega | (simp; omega))
    try simp only [Act.put, List.setIfInBounds_toArray, List.set_cons_zero, List.set_cons_succ]
    refine wpAnyH_take (i := 11) (oi := { dst := some 176, op := Op.indexAddr 22 (Operand.tmp 173) (Operand.tmp 175), type := 0, pos := "law.go:585", after := #[{ on := 8, ground := Ground.data }, { on := 10, ground := Ground.data }, { on := 3, ground := Ground.guard }], guard := some (3, true) }) (v := .pointer (some ⟨gr, nx, none⟩)) rfl (by kernel_rfl) (by kernel_rfl) (by kernel_rfl) (fun _ _ _ h => h) (Or.inl ⟨by rfl, ?_⟩) (by assumption) ?_
    · intro w hSw
      (try dsimp only at hSw)
      go_simp
      all_goals (first | assumption | rfl | (simp; done) | (simp only [*]; done) | omega | (simp; omega))
    try simp only [Act.put, List.setIfInBounds_toArray, List.set_cons_zero, List.set_cons_succ]
    refine wpAnyH_take (i := 12) (oi := { dst := some 177, op := Op.load 3 (Operand.tmp 176), type := 3, pos := "law.go:585", after := #[{ on := 11, ground := Ground.data }, { on := 3, ground := Ground.guard }], guard := some (3, true) }) (v := .int .i64 (b nx)) rfl (by kernel_rfl) (by kernel_rfl) (by kernel_rfl) (fun _ _ _ h => h) (Or.inl ⟨by rfl, ?_⟩) (by assumption) ?_
    · intro w hSw
      (try dsimp only at hSw)
      go_simp
      all_goals (first | assumption | rfl | (simp; done) | (simp only [*]; done) | omega | (simp; omega))
    try simp only [Act.put, List.setIfInBounds_toArray, List.set_cons_zero, List.set_cons_succ]
    refine wpAnyH_take (i := 13) (oi := { dst := some 178, op := Op.fieldAddr 57 (Operand.tmp 7) 5, type := 0, pos := "law.go:585", after := #[{ on := 3, ground := Ground.guard }], guard := some (3, true) }) (v := .pointer (some ⟨bx, 5, none⟩)) rfl (by kernel_rfl) (by kernel_rfl) (by kernel_rfl) (fun _ _ _ h => h) (Or.inl ⟨by rfl, ?_⟩) (by assumption) ?_
    · intro w hSw
      (try dsimp only at hSw)
      go_simp
      all_goals (first | assumption | rfl | (simp; done) | (simp only [*]; done) | omega | (simp; omega))
    try simp only [Act.put, List.setIfInBounds_toArray, List.set_cons_zero, List.set_cons_succ]
    refine wpAnyH_take (i := 14) (oi := { dst := some 179, op := Op.load 3 (Operand.tmp 178), type := 3, pos := "law.go:585", after := #[{ on := 13, ground := Ground.data }, { on := 3, ground := Ground.guard }], guard := some (3, true) }) (v := .int .i64 C) rfl (by kernel_rfl) (by kernel_rfl) (by kernel_rfl) (fun _ _ _ h => h) (Or.inl ⟨by rfl, ?_⟩) (by assumption) ?_
    · intro w hSw
      (try dsimp only at hSw)
      go_simp
      all_goals (first | assumption | rfl | (simp; done) | (simp only [*]; done) | omega | (simp; omega))
    try simp only [Act.put, List.setIfInBounds_toArray, List.set_cons_zero, List.set_cons_succ]
    refine wpAnyH_take (i := 15) (oi := { dst := some 180, op := Op.binOp BinOp.sub 3 (Operand.tmp 177) (Operand.tmp 179) 3, type := 3, pos := "law.go:585", after := #[{ on := 12, ground := Ground.data }, { on := 14, ground := Ground.data }, { on := 3, ground := Ground.guard }], guard := some (3, true) }) (v := .int .i64 (b nx - C)) rfl (by kernel_rfl) (by kernel_rfl) (by kernel_rfl) (fun _ _ _ h => h) (Or.inl ⟨by rfl, ?_⟩) (by assumption) ?_
    · intro w hSw
      (try dsimp only at hSw)
      go_simp
      all_goals (first | assumption | rfl | (simp; done) | (simp only [*]; done) | omega | (simp; omega))
    try simp only [Act.put, List.setIfInBounds_toArray, List.set_cons_zero, List.set_cons_succ]
    clear hw
    refine wpAnyH_ready (rs := [16]) (by kernel_rfl) (by simp) ?_
    refine AllReadyH.cons (o := { dst := some 181, op := Op.call { callee := Callee.value (Operand.func 17), args := #[Operand.tmp 170, Operand.tmp 172, Operand.tmp 180], argTypes := #[22, 3, 3] }, type := 22, pos := "law.go:585", after := #[{ on := 5, ground := Ground.data }, { on := 7, ground := Ground.data }, { on := 15, ground := Ground.data }, { on := 3, ground := Ground.chain }, { on := 3, ground := Ground.guard }], guard := some (3, true) }) rfl (fun K hK => ?_) ?_
    rotate_left
    · exact AllReadyH.nil
    go_simp
    go_at_call 17
    refine (with_any _ gr b nx (b nx - C) HVt.out HX6.out).mono ?_
    rintro e Wu ⟨gv, rfl, hg, hv, hB⟩
    have HVn := Lib.hid hv
    have HOu := Lib.hid (HOt.out.up hB)
    have HVu := Lib.hid (HVt.out.up hB)
    have HSu := Lib.hid (HSt.out.up hB)
    clear hg hv hB
    refine hK.out _ _ ?_ (fun hHeld => ?_)
    · (try dsimp only)
      exact ⟨HOu.out.x, HOu.out.y, HOu.out.c, HVu.out.at_ nx HX6.out, HVu.out.at_ ny HY6.out⟩
    clear hK K
    try simp only [Act.put, List.setIfInBounds_toArray, List.set_cons_zero, List.set_cons_succ]
    refine wpAnyH_ready (rs := [17]) (by kernel_rfl) (by simp) ?_
    refine AllReadyH.cons (o := { dst := some 182, op := Op.call { callee := Callee.value (Operand.func 13), args := #[Operand.tmp 169, Operand.tmp 181], argTypes := #[25, 22] }, type := 4, pos := "law.go:585", after := #[{ on := 4, ground := Ground.data }, { on := 16, ground := Ground.data }, { on := 16, ground := Ground.chain }, { on := 3, ground := Ground.guard }], guard := some (3, true) }) rfl (fun K hK => ?_) ?_
    rotate_left
    · exact AllReadyH.nil
    go_simp
    go_at_call 13
    refine (meets_yes _ gz M (HSu.out.2 (gz, some M) (by simp)) gv (updI b nx (b nx - C)) HVn.out (lw_upd HTJ.out HNI.out) HBK.out).mono ?_
    rintro e Wv ⟨rfl, hB⟩
    have HOv := Lib.hid (HOu.out.up hB)
    have HVv := Lib.hid (HVu.out.up hB)
    have HSv := Lib.hid (HSu.out.up hB)
    clear hB
    refine hK.out _ _ ?_ (fun hHeld => ?_)
    · (try dsimp only)
      exact ⟨HOv.out.x, HOv.out.y, HOv.out.c, HVv.out.at_ nx HX6.out, HVv.out.at_ ny HY6.out⟩
    clear hK K
    try simp only [Act.put, List.setIfInBounds_toArray, List.set_cons_zero, List.set_cons_succ]
    refine wpAnyH_take (i := 18) (oi := { dst := some 183, op := Op.pick (Operand.tmp 168) (Operand.tmp 182) (Operand.const (Value.bool false)), type := 4, pos := "law.go:585", after := #[{ on := 3, ground := Ground.data }, { on := 17, ground := Ground.data }], guard := none }) (v := .bool true) rfl (by kernel_rfl) (by kernel_rfl) (by kernel_rfl) (fun _ _ _ h => h) (Or.inl ⟨by rfl, ?_⟩) (by assumption) ?_
    · intro w hSw
      (try dsimp only at hSw)
      go_simp
      all_goals (first | assumption | rfl | (simp; done) | (simp only [*]; done) | omega | (simp; omega))
    try simp only [Act.put, List.setIfInBounds_toArray, List.set_cons_zero, List.set_cons_succ]
    refine wpAnyH_take (i := 19) (oi := { dst := some 184, op := Op.move (Operand.tmp 183), type := 4, pos := "law.go:585", after := #[{ on := 18, ground := Ground.data }, { on := 17, ground := Ground.chain }], guard := none }) (v := .bool true) rfl (by kernel_rfl) (by kernel_rfl) (by kernel_rfl) (fun _ _ _ h => h) (Or.inl ⟨by rfl, ?_⟩) (by assumption) ?_
    · intro w hSw
      (try dsimp only at hSw)
      go_simp
      all_goals (first | assumption | rfl | (simp; done) | (simp only [*]; done) | omega | (simp; omega))
    try simp only [Act.put, List.setIfInBounds_toArray, List.set_cons_zero, List.set_cons_succ]
    refine wpAnyH_ready (rs := [20]) (by kernel_rfl) (by simp) ?_
    refine AllReadyH.cons (o := { dst := some 185, op := Op.call { callee := Callee.value (Operand.func 14), args := #[], argTypes := #[] }, type := 4, pos := "law.go:585", after := #[{ on := 19, ground := Ground.chain }, { on := 19, ground := Ground.guard }], guard := some (19, true) }) rfl (fun K hK => ?_) ?_
    rotate_left
    · exact AllReadyH.nil
    go_simp
    go_at_call 14
    refine (awake_any _).mono ?_
    rintro e Wx ⟨rfl, hB⟩
    have HOx := Lib.hid (HOv.out.up hB)
    have HVx := Lib.hid (HVv.out.up hB)
    have HSx := Lib.hid (HSv.out.up hB)
    clear hB
    refine hK.out _ _ ?_ (fun hHeld => ?_)
    · (try dsimp only)
      exact ⟨HOx.out.x, HOx.out.y, HOx.out.c, HVx.out.at_ nx HX6.out, HVx.out.at_ ny HY6.out⟩
    clear hK K
    try simp only [Act.put, List.setIfInBounds_toArray, List.set_cons_zero, List.set_cons_succ]
    refine wpAnyH_take (i := 21) (oi := { dst := some 186, op := Op.pick (Operand.tmp 184) (Operand.tmp 185) (Operand.const (Value.bool false)), type := 4, pos := "law.go:585", after := #[{ on := 19, ground := Ground.data }, { on := 20, ground := Ground.data }], guard := none }) (v := .bool true) rfl (by kernel_rfl) (by kernel_rfl) (by kernel_rfl) (fun _ _ _ h => h) (Or.inl ⟨by rfl, ?_⟩) (by assumption) ?_
    · intro w hSw
      (try dsimp only at hSw)
      go_simp
      all_goals (first | assumption | rfl | (simp; done) | (simp only [*]; done) | omega | (simp; omega))
    try simp only [Act.put, List.setIfInBounds_toArray, List.set_cons_zero, List.set_cons_succ]
    refine wpAnyH_take (i := 22) (oi := { dst := some 10, op := Op.assign (Operand.tmp 186), type := 4, pos := "law.go:585", after := #[{ on := 21, ground := Ground.data }, { on := 20, ground := Ground.chain }, { on := 0, ground := Ground.phase }, { on := 1, ground := Ground.phase }, { on := 2, ground := Ground.phase }, { on := 3, ground := Ground.phase }, { on := 4, ground := Ground.phase }, { on := 5, ground := Ground.phase }, { on := 6, ground := Ground.phase }, { on := 7, ground := Ground.phase }, { on := 8, ground := Ground.phase }, { on := 9, ground := Ground.phase }, { on := 10, ground := Ground.phase }, { on := 11, ground := Ground.phase }, { on := 12, ground := Ground.phase }, { on := 13, ground := Ground.phase }, { on := 14, ground := Ground.phase }, { on := 15, ground := Ground.phase }, { on := 16, ground := Ground.phase }, { on := 17, ground := Ground.phase }, { on := 18, ground := Ground.phase }, { on := 19, ground := Ground.phase }, { on := 20, ground := Ground.phase }, { on := 21, ground := Ground.phase }], guard := none }) (v := .bool true) rfl (by kernel_rfl) (by kernel_rfl) (by kernel_rfl) (fun _ _ _ h => h) (Or.inl ⟨by rfl, ?_⟩) (by assumption) ?_
    · intro w hSw
      (try dsimp only at hSw)
      go_simp
      all_goals (first | assumption | rfl | (simp; done) | (simp only [*]; done) | omega | (simp; omega))
    try simp only [Act.put, List.setIfInBounds_toArray, List.set_cons_zero, List.set_cons_succ]
    refine wpAnyH_done (by kernel_rfl) ?_ _
    go_wp2_with fail
    go_ret
    exact ⟨rfl, HSx.out.1⟩
  · have te : ((nx : Int) == (ny : Int)) = false := by rw [beq_eq_false_iff_ne]; omega
    have HOWN := Lib.hid (assign_own HTI.out HX6.out HY6.out HC40.out hxy HTM.out)
    clear hxy
    go_wp2_with fail
    go_at_call 42
    have hbox := below_box W16 (.cells #[.int .i64 nx] 3)
    refine (extend_any _ gz gr M b (some ⟨W16.heap.size, 0, none⟩) 1 1 [(nx : Int)] ((S16.out.up hbox).2 (gz, some M) (by simp)) (HVgr.out.up hbox) rfl (by omega) (nums_new W16 nx _) HTI.out.toTight HEX.out).mono ?_
    rintro e We ⟨ge2, rfl, hB⟩
    have hBe := hbox.trans (hB.mono hbox.size)
    have HOP2 := Lib.hid (HOP.out.up hBe)
    have HVgr2 := Lib.hid (HVgr.out.up hBe)
    have S17 := Lib.hid (show St w We [(gt, some (assignT M nx ny C)), (gf, some (forgetT M L)), (gn, none), (gz, some M), (g0, some topT)] from S16.out.up hBe)
    clear hbox hB hBe te v3 v4 HOP HVgr S16
    have HOP := HOP2
    have HVgr := HVgr2
    clear HOP2 HVgr2
    go_upto_region 29 with (fail)
    obtain ⟨b1, b2⟩ := HTR.out nx HX6.out
    obtain ⟨b3, b4⟩ := HTR.out ny HY6.out
    obtain ⟨cc1, cc2⟩ := HC40.out
    have hx0 : (0 : Int) ≤ nx := by omega
    have hx6 : (nx : Int) < 60 := by have := HX6.out; omega
    have hx6n := HX6.out
    have hy0 : (0 : Int) ≤ ny := by omega
    have hy6 : (ny : Int) < 60 := by have := HY6.out; omega
    have hy6n := HY6.out
    have HOs := Lib.hid (HOP.out.up (below_drewN' (Below.refl _ _) 1))
    have HVs := Lib.hid (HVgr.out.up (below_drewN' (Below.refl _ _) 1))
    have HSs := Lib.hid (S17.out.up (below_drewN' (Below.refl _ _) 1))
    have hw : IntKind.i64.wrap (b ny + C) = b ny + C := IntWalk.i64_in _ (by omega)
    have he : (b nx == b ny + C) = true := by rw [HOWN.out]; exact beq_self_eq_true _
    refine wp_region_held_drew (S := (fun W => W.cell? ⟨bx, 3, none⟩ = some (.int .i64 nx) ∧ W.cell? ⟨bx, 4, none⟩ = some (.int .i64 ny) ∧ W.cell? ⟨bx, 5, none⟩ = some (.int .i64 C) ∧ W.cell? ⟨gr, nx, none⟩ = some (.int .i64 (b nx)) ∧ W.cell? ⟨gr, ny, none⟩ = some (.int .i64 (b ny)))) (by kernel_rfl) ⟨HOs.out.x, HOs.out.y, HOs.out.c, HVs.out.at_ nx HX6.out, HVs.out.at_ ny HY6.out⟩ (fun hHeld => ?_)
    refine wpAnyH_take (i := 0) (oi := { dst := some 196, op := Op.move (Operand.tmp 21), type := 25, pos := "law.go:588", after := #[], guard := none }) (v := .pointer (some ⟨gt, 0, none⟩)) rfl (by kernel_rfl) (by kernel_rfl) (by kernel_rfl) (fun _ _ _ h => h) (Or.inl ⟨by rfl, ?_⟩) (by assumption) ?_
    · intro w hSw
      (try dsimp only at hSw)
      go_simp
      all_goals (first | assumption | rfl | (simp; done) | (simp only [*]; done) | omega | (simp; omega))
    try simp only [Act.put, List.setIfInBounds_toArray, List.set_cons_zero, List.set_cons_succ]
    refine wpAnyH_take (i := 1) (oi := { dst := some 197, op := Op.move (Operand.tmp 18), type := 22, pos := "law.go:588", after := #[], guard := none }) (v := vecV gr) rfl (by kernel_rfl) (by kernel_rfl) (by kernel_rfl) (fun _ _ _ h => h) (Or.inl ⟨by rfl, ?_⟩) (by assumption) ?_
    · intro w hSw
      (try dsimp only at hSw)
      go_simp
      all_goals (first | assumption | rfl | (simp; done) | (simp only [*]; done) | omega | (simp; omega))
    try simp only [Act.put, List.setIfInBounds_toArray, List.set_cons_zero, List.set_cons_succ]
    refine wpAnyH_ready (rs := [2]) (by kernel_rfl) (by simp) ?_
    refine AllReadyH.cons (o := { dst := some 198, op := Op.call { callee := Callee.value (Operand.func 13), args := #[Operand.tmp 196, Operand.tmp 197], argTypes := #[25, 22] }, type := 4, pos := "law.go:588", after := #[{ on := 0, ground := Ground.data }, { on := 1, ground := Ground.data }], guard := none }) rfl (fun K hK => ?_) ?_
    rotate_left
    · exact AllReadyH.nil
    go_simp
    go_at_call 13
    refine (meets_yes _ gt (assignT M nx ny C) (HSs.out.2 (gt, some (assignT M nx ny C)) (by simp)) gr b HVs.out HTJ.out HTM.out).mono ?_
    rintro e Wt ⟨rfl, hB⟩
    have HOt := Lib.hid (HOs.out.up hB)
    have HVt := Lib.hid (HVs.out.up hB)
    have HSt := Lib.hid (HSs.out.up hB)
    clear hB
    refine hK.out _ _ ?_ (fun hHeld => ?_)
    · (try dsimp only)
      exact ⟨HOt.out.x, HOt.out.y, HOt.out.c, HVt.out.at_ nx HX6.out, HVt.out.at_ ny HY6.out⟩
    clear hK K
    try simp only [Act.put, List.setIfInBounds_toArray, List.set_cons_zero, List.set_cons_succ]
    refine wpAnyH_take (i := 3) (oi := { dst := some 199, op := Op.move (Operand.tmp 198), type := 4, pos := "law.go:588", after := #[{ on := 2, ground := Ground.data }, { on := 2, ground := Ground.chain }], guard := none }) (v := .bool true) rfl (by kernel_rfl) (by kernel_rfl) (by kernel_rfl) (fun _ _ _ h => h) (Or.inl ⟨by rfl, ?_⟩) (by assumption) ?_
    · intro w hSw
      (try dsimp only at hSw)
      go_simp
      all_goals (first | assumption | rfl | (simp; done) | (simp only [*]; done) | omega | (simp; omega))
    try simp only [Act.put, List.setIfInBounds_toArray, List.set_cons_zero, List.set_cons_succ]
    refine wpAnyH_take (i := 4) (oi := { dst := some 200, op := Op.move (Operand.tmp 18), type := 22, pos := "law.go:588", after := #[{ on := 3, ground := Ground.guard }], guard := some (3, true) }) (v := vecV gr) rfl (by kernel_rfl) (by kernel_rfl) (by kernel_rfl) (fun _ _ _ h => h) (Or.inl ⟨by rfl, ?_⟩) (by assumption) ?_
    · intro w hSw
      (try dsimp only at hSw)
      go_simp
      all_goals (first | assumption | rfl | (simp; done) | (simp only [*]; done) | omega | (simp; omega))
    try simp only [Act.put, List.setIfInBounds_toArray, List.set_cons_zero, List.set_cons_succ]
    refine wpAnyH_take (i := 5) (oi := { dst := some 201, op := Op.fieldAddr 57 (Operand.tmp 7) 3, type := 0, pos := "law.go:588", after := #[{ on := 3, ground := Ground.guard }], guard := some (3, true) }) (v := .pointer (some ⟨bx, 3, none⟩)) rfl (by kernel_rfl) (by kernel_rfl) (by kernel_rfl) (fun _ _ _ h => h) (Or.inl ⟨by rfl, ?_⟩) (by assumption) ?_
    · intro w hSw
      (try dsimp only at hSw)
      go_simp
      all_goals (first | assumption | rfl | (simp; done) | (simp only [*]; done) | omega | (simp; omega))
    try simp only [Act.put, List.setIfInBounds_toArray, List.set_cons_zero, List.set_cons_succ]
    refine wpAnyH_take (i := 6) (oi := { dst := some 202, op := Op.load 3 (Operand.tmp 201), type := 3, pos := "law.go:588", after := #[{ on := 5, ground := Ground.data }, { on := 3, ground := Ground.guard }], guard := some (3, true) }) (v := .int .i64 nx) rfl (by kernel_rfl) (by kernel_rfl) (by kernel_rfl) (fun _ _ _ h => h) (Or.inl ⟨by rfl, ?_⟩) (by assumption) ?_
    · intro w hSw
      (try dsimp only at hSw)
      go_simp
      all_goals (first | assumption | rfl | (simp; done) | (simp only [*]; done) | omega | (simp; omega))
    try simp only [Act.put, List.setIfInBounds_toArray, List.set_cons_zero, List.set_cons_succ]
    refine wpAnyH_take (i := 7) (oi := { dst := some 203, op := Op.indexAddr 22 (Operand.tmp 200) (Operand.tmp 202), type := 0, pos := "law.go:588", after := #[{ on := 4, ground := Ground.data }, { on := 6, ground := Ground.data }, { on := 3, ground := Ground.guard }], guard := some (3, true) }) (v := .pointer (some ⟨gr, nx, none⟩)) rfl (by kernel_rfl) (by kernel_rfl) (by kernel_rfl) (fun _ _ _ h => h) (Or.inl ⟨by rfl, ?_⟩) (by assumption) ?_
    · intro w hSw
      (try dsimp only at hSw)
      go_simp
      all_goals (first | assumption | rfl | (simp; done) | (simp only [*]; done) | omega | (simp; omega))
    try simp only [Act.put, List.setIfInBounds_toArray, List.set_cons_zero, List.set_cons_succ]
    refine wpAnyH_take (i := 8) (oi := { dst := some 204, op := Op.load 3 (Operand.tmp 203), type := 3, pos := "law.go:588", after := #[{ on := 7, ground := Ground.data }, { on := 3, ground := Ground.guard }], guard := some (3, true) }) (v := .int .i64 (b nx)) rfl (by kernel_rfl) (by kernel_rfl) (by kernel_rfl) (fun _ _ _ h => h) (Or.inl ⟨by rfl, ?_⟩) (by assumption) ?_
    · intro w hSw
      (try dsimp only at hSw)
      go_simp
      all_goals (first | assumption | rfl | (simp; done) | (simp only [*]; done) | omega | (simp; omega))
    try simp only [Act.put, List.setIfInBounds_toArray, List.set_cons_zero, List.set_cons_succ]
    refine wpAnyH_take (i := 9) (oi := { dst := some 205, op := Op.move (Operand.tmp 18), type := 22, pos := "law.go:588", after := #[{ on := 3, ground := Ground.guard }], guard := some (3, true) }) (v := vecV gr) rfl (by kernel_rfl) (by kernel_rfl) (by kernel_rfl) (fun _ _ _ h => h) (Or.inl ⟨by rfl, ?_⟩) (by assumption) ?_
    · intro w hSw
      (try dsimp only at hSw)
      go_simp
      all_goals (first | assumption | rfl | (simp; done) | (simp only [*]; done) | omega | (simp; omega))
    try simp only [Act.put, List.setIfInBounds_toArray, List.set_cons_zero, List.set_cons_succ]
    refine wpAnyH_take (i := 10) (oi := { dst := some 206, op := Op.fieldAddr 57 (Operand.tmp 7) 4, type := 0, pos := "law.go:588", after := #[{ on := 3, ground := Ground.guard }], guard := some (3, true) }) (v := .pointer (some ⟨bx, 4, none⟩)) rfl (by kernel_rfl) (by kernel_rfl) (by kernel_rfl) (fun _ _ _ h => h) (Or.inl ⟨by rfl, ?_⟩) (by assumption) ?_
    · intro w hSw
      (try dsimp only at hSw)
      go_simp
      all_goals (first | assumption | rfl | (simp; done) | (simp only [*]; done) | omega | (simp; omega))
    try simp only [Act.put, List.setIfInBounds_toArray, List.set_cons_zero, List.set_cons_succ]
    refine wpAnyH_take (i := 11) (oi := { dst := some 207, op := Op.load 3 (Operand.tmp 206), type := 3, pos := "law.go:588", after := #[{ on := 10, ground := Ground.data }, { on := 3, ground := Ground.guard }], guard := some (3, true) }) (v := .int .i64 ny) rfl (by kernel_rfl) (by kernel_rfl) (by kernel_rfl) (fun _ _ _ h => h) (Or.inl ⟨by rfl, ?_⟩) (by assumption) ?_
    · intro w hSw
      (try dsimp only at hSw)
      go_simp
      all_goals (first | assumption | rfl | (simp; done) | (simp only [*]; done) | omega | (simp; omega))
    try simp only [Act.put, List.setIfInBounds_toArray, List.set_cons_zero, List.set_cons_succ]
    refine wpAnyH_take (i := 12) (oi := { dst := some 208, op := Op.indexAddr 22 (Operand.tmp 205) (Operand.tmp 207), type := 0, pos := "law.go:588", after := #[{ on := 9, ground := Ground.data }, { on := 11, ground := Ground.data }, { on := 3, ground := Ground.guard }], guard := some (3, true) }) (v := .pointer (some ⟨gr, ny, none⟩)) rfl (by kernel_rfl) (by kernel_rfl) (by kernel_rfl) (fun _ _ _ h => h) (Or.inl ⟨by rfl, ?_⟩) (by assumption) ?_
    · intro w hSw
      (try dsimp only at hSw)
      go_simp
      all_goals (first | assumption | rfl | (simp; done) | (simp only [*]; done) | omega | (simp; omega))
    try simp only [Act.put, List.setIfInBounds_toArray, List.set_cons_zero, List.set_cons_succ]
    refine wpAnyH_take (i := 13) (oi := { dst := some 209, op := Op.load 3 (Operand.tmp 208), type := 3, pos := "law.go:588", after := #[{ on := 12, ground := Ground.data }, { on := 3, ground := Ground.guard }], guard := some (3, true) }) (v := .int .i64 (b ny)) rfl (by kernel_rfl) (by kernel_rfl) (by kernel_rfl) (fun _ _ _ h => h) (Or.inl ⟨by rfl, ?_⟩) (by assumption) ?_
    · intro w hSw
      (try dsimp only at hSw)
      go_simp
      all_goals (first | assumption | rfl | (simp; done) | (simp only [*]; done) | omega | (simp; omega))
    try simp only [Act.put, List.setIfInBounds_toArray, List.set_cons_zero, List.set_cons_succ]
    refine wpAnyH_take (i := 14) (oi := { dst := some 210, op := Op.fieldAddr 57 (Operand.tmp 7) 5, type := 0, pos := "law.go:588", after := #[{ on := 3, ground := Ground.guard }], guard := some (3, true) }) (v := .pointer (some ⟨bx, 5, none⟩)) rfl (by kernel_rfl) (by kernel_rfl) (by kernel_rfl) (fun _ _ _ h => h) (Or.inl ⟨by rfl, ?_⟩) (by assumption) ?_
    · intro w hSw
      (try dsimp only at hSw)
      go_simp
      all_goals (first | assumption | rfl | (simp; done) | (simp only [*]; done) | omega | (simp; omega))
    try simp only [Act.put, List.setIfInBounds_toArray, List.set_cons_zero, List.set_cons_succ]
    refine wpAnyH_take (i := 15) (oi := { dst := some 211, op := Op.load 3 (Operand.tmp 210), type := 3, pos := "law.go:588", after := #[{ on := 14, ground := Ground.data }, { on := 3, ground := Ground.guard }], guard := some (3, true) }) (v := .int .i64 C) rfl (by kernel_rfl) (by kernel_rfl) (by kernel_rfl) (fun _ _ _ h => h) (Or.inl ⟨by rfl, ?_⟩) (by assumption) ?_
    · intro w hSw
      (try dsimp only at hSw)
      go_simp
      all_goals (first | assumption | rfl | (simp; done) | (simp only [*]; done) | omega | (simp; omega))
    try simp only [Act.put, List.setIfInBounds_toArray, List.set_cons_zero, List.set_cons_succ]
    refine wpAnyH_take (i := 16) (oi := { dst := some 212, op := Op.binOp BinOp.add 3 (Operand.tmp 209) (Operand.tmp 211) 3, type := 3, pos := "law.go:588", after := #[{ on := 13, ground := Ground.data }, { on := 15, ground := Ground.data }, { on := 3, ground := Ground.guard }], guard := some (3, true) }) (v := .int .i64 (b ny + C)) rfl (by kernel_rfl) (by kernel_rfl) (by kernel_rfl) (fun _ _ _ h => h) (Or.inl ⟨by rfl, ?_⟩) (by assumption) ?_
    · intro w hSw
      (try dsimp only at hSw)
      go_simp
      all_goals (first | assumption | rfl | (simp; done) | (simp only [*]; done) | omega | (simp; omega))
    try simp only [Act.put, List.setIfInBounds_toArray, List.set_cons_zero, List.set_cons_succ]
    refine wpAnyH_take (i := 17) (oi := { dst := some 213, op := Op.binOp BinOp.eql 3 (Operand.tmp 204) (Operand.tmp 212) 3, type := 4, pos := "law.go:588", after := #[{ on := 8, ground := Ground.data }, { on := 16, ground := Ground.data }, { on := 3, ground := Ground.guard }], guard := some (3, true) }) (v := .bool true) rfl (by kernel_rfl) (by kernel_rfl) (by kernel_rfl) (fun _ _ _ h => h) (Or.inl ⟨by rfl, ?_⟩) (by assumption) ?_
    · intro w hSw
      (try dsimp only at hSw)
      go_simp
      all_goals (first | assumption | rfl | (simp; done) | (simp only [*]; done) | omega | (simp; omega))
    try simp only [Act.put, List.setIfInBounds_toArray, List.set_cons_zero, List.set_cons_succ]
    clear hw he
    refine wpAnyH_take (i := 18) (oi := { dst := some 214, op := Op.pick (Operand.tmp 199) (Operand.tmp 213) (Operand.const (Value.bool false)), type := 4, pos := "law.go:588", after := #[{ on := 3, ground := Ground.data }, { on := 17, ground := Ground.data }], guard := none }) (v := .bool true) rfl (by kernel_rfl) (by kernel_rfl) (by kernel_rfl) (fun _ _ _ h => h) (Or.inl ⟨by rfl, ?_⟩) (by assumption) ?_
    · intro w hSw
      (try dsimp only at hSw)
      go_simp
      all_goals (first | assumption | rfl | (simp; done) | (simp only [*]; done) | omega | (simp; omega))
    try simp only [Act.put, List.setIfInBounds_toArray, List.set_cons_zero, List.set_cons_succ]
    refine wpAnyH_take (i := 19) (oi := { dst := some 215, op := Op.move (Operand.tmp 214), type := 4, pos := "law.go:588", after := #[{ on := 18, ground := Ground.data }, { on := 3, ground := Ground.chain }], guard := none }) (v := .bool true) rfl (by kernel_rfl) (by kernel_rfl) (by kernel_rfl) (fun _ _ _ h => h) (Or.inl ⟨by rfl, ?_⟩) (by assumption) ?_
    · intro w hSw
      (try dsimp only at hSw)
      go_simp
      all_goals (first | assumption | rfl | (simp; done) | (simp only [*]; done) | omega | (simp; omega))
    try simp only [Act.put, List.setIfInBounds_toArray, List.set_cons_zero, List.set_cons_succ]
    refine wpAnyH_take (i := 20) (oi := { dst := some 216, op := Op.move (Operand.tmp 20), type := 4, pos := "law.go:588", after := #[{ on := 19, ground := Ground.guard }], guard := some (19, true) }) (v := .bool true) rfl (by kernel_rfl) (by kernel_rfl) (by kernel_rfl) (fun _ _ _ h => h) (Or.inl ⟨by rfl, ?_⟩) (by assumption) ?_
    · intro w hSw
      (try dsimp only at hSw)
      go_simp
      all_goals (first | assumption | rfl | (simp; done) | (simp only [*]; done) | omega | (simp; omega))
    try simp only [Act.put, List.setIfInBounds_toArray, List.set_cons_zero, List.set_cons_succ]
    refine wpAnyH_take (i := 21) (oi := { dst := some 217, op := Op.pick (Operand.tmp 215) (Operand.tmp 216) (Operand.const (Value.bool false)), type := 4, pos := "law.go:588", after := #[{ on := 19, ground := Ground.data }, { on := 20, ground := Ground.data }], guard := none }) (v := .bool true) rfl (by kernel_rfl) (by kernel_rfl) (by kernel_rfl) (fun _ _ _ h => h) (Or.inl ⟨by rfl, ?_⟩) (by assumption) ?_
    · intro w hSw
      (try dsimp only at hSw)
      go_simp
      all_goals (first | assumption | rfl | (simp; done) | (simp only [*]; done) | omega | (simp; omega))
    try simp only [Act.put, List.setIfInBounds_toArray, List.set_cons_zero, List.set_cons_succ]
    refine wpAnyH_take (i := 22) (oi := { dst := some 218, op := Op.move (Operand.tmp 217), type := 4, pos := "law.go:588", after := #[{ on := 21, ground := Ground.data }, { on := 19, ground := Ground.chain }], guard := none }) (v := .bool true) rfl (by kernel_rfl) (by kernel_rfl) (by kernel_rfl) (fun _ _ _ h => h) (Or.inl ⟨by rfl, ?_⟩) (by assumption) ?_
    · intro w hSw
      (try dsimp only at hSw)
      go_simp
      all_goals (first | assumption | rfl | (simp; done) | (simp only [*]; done) | omega | (simp; omega))
    try simp only [Act.put, List.setIfInBounds_toArray, List.set_cons_zero, List.set_cons_succ]
    refine wpAnyH_ready (rs := [23]) (by kernel_rfl) (by simp) ?_
    refine AllReadyH.cons (o := { dst := some 219, op := Op.call { callee := Callee.value (Operand.func 14), args := #[], argTypes := #[] }, type := 4, pos := "law.go:588", after := #[{ on := 22, ground := Ground.chain }, { on := 22, ground := Ground.guard }], guard := some (22, true) }) rfl (fun K hK => ?_) ?_
    rotate_left
    · exact AllReadyH.nil
    go_simp
    go_at_call 14
    refine (awake_any _).mono ?_
    rintro e Wx ⟨rfl, hB⟩
    have HOx := Lib.hid (HOt.out.up hB)
    have HVx := Lib.hid (HVt.out.up hB)
    have HSx := Lib.hid (HSt.out.up hB)
    clear hB
    refine hK.out _ _ ?_ (fun hHeld => ?_)
    · (try dsimp only)
      exact ⟨HOx.out.x, HOx.out.y, HOx.out.c, HVx.out.at_ nx HX6.out, HVx.out.at_ ny HY6.out⟩
    clear hK K
    try simp only [Act.put, List.setIfInBounds_toArray, List.set_cons_zero, List.set_cons_succ]
    refine wpAnyH_take (i := 24) (oi := { dst := some 220, op := Op.pick (Operand.tmp 218) (Operand.tmp 219) (Operand.const (Value.bool false)), type := 4, pos := "law.go:588", after := #[{ on := 22, ground := Ground.data }, { on := 23, ground := Ground.data }], guard := none }) (v := .bool true) rfl (by kernel_rfl) (by kernel_rfl) (by kernel_rfl) (fun _ _ _ h => h) (Or.inl ⟨by rfl, ?_⟩) (by assumption) ?_
    · intro w hSw
      (try dsimp only at hSw)
      go_simp
      all_goals (first | assumption | rfl | (simp; done) | (simp only [*]; done) | omega | (simp; omega))
    try simp only [Act.put, List.setIfInBounds_toArray, List.set_cons_zero, List.set_cons_succ]
    refine wpAnyH_take (i := 25) (oi := { dst := some 10, op := Op.assign (Operand.tmp 220), type := 4, pos := "law.go:588", after := #[{ on := 24, ground := Ground.data }, { on := 23, ground := Ground.chain }, { on := 0, ground := Ground.phase }, { on := 1, ground := Ground.phase }, { on := 2, ground := Ground.phase }, { on := 3, ground := Ground.phase }, { on := 4, ground := Ground.phase }, { on := 5, ground := Ground.phase }, { on := 6, ground := Ground.phase }, { on := 7, ground := Ground.phase }, { on := 8, ground := Ground.phase }, { on := 9, ground := Ground.phase }, { on := 10, ground := Ground.phase }, { on := 11, ground := Ground.phase }, { on := 12, ground := Ground.phase }, { on := 13, ground := Ground.phase }, { on := 14, ground := Ground.phase }, { on := 15, ground := Ground.phase }, { on := 16, ground := Ground.phase }, { on := 17, ground := Ground.phase }, { on := 18, ground := Ground.phase }, { on := 19, ground := Ground.phase }, { on := 20, ground := Ground.phase }, { on := 21, ground := Ground.phase }, { on := 22, ground := Ground.phase }, { on := 23, ground := Ground.phase }, { on := 24, ground := Ground.phase }], guard := none }) (v := .bool true) rfl (by kernel_rfl) (by kernel_rfl) (by kernel_rfl) (fun _ _ _ h => h) (Or.inl ⟨by rfl, ?_⟩) (by assumption) ?_
    · intro w hSw
      (try dsimp only at hSw)
      go_simp
      all_goals (first | assumption | rfl | (simp; done) | (simp only [*]; done) | omega | (simp; omega))
    try simp only [Act.put, List.setIfInBounds_toArray, List.set_cons_zero, List.set_cons_succ]
    refine wpAnyH_done (by kernel_rfl) ?_ _
    go_wp2_with fail
    go_ret
    exact ⟨rfl, HSx.out.1⟩
set_option maxHeartbeats 6000000 in
theorem zoneLoses_some (w : World) (A0 : Option Addr) (n0 c0 : Nat) (L0 : List Con) (i0 : ConIn w A0 n0 c0 L0) (A1 : Option Addr) (n1 c1 : Nat) (L1 : List Con) (i1 : ConIn w A1 n1 c1 L1) (k0 k1 k2 X Y C : Int) (hX : I64 X) (hY : I64 Y) (hC : I64 C) (A : Option Addr) (n c : Nat) (L : List Int) (i : NumIn w A n c L) (A7 A8 A9 : Option Addr) (n7 c7 n8 c8 n9 c9 : Nat) (x3 : Int) (b3 : I64 x3) (x4 : Int) (b4 : I64 x4) (M : Tab) (hv : withZ (some topT) (smallL L0) = some M) (p q : Nat) (hp : x3 % 60 = p) (hp6 : p < 60) (hq : x4 % 60 = q) (hq6 : q < 60) (N : Tab) (hn : withZ (some M) (smallL L1) = some N) :
    Calls Try.prog 6 #[.slice A0 n0 c0, .slice A1 n1 c1, .agg #[.int .i64 k0, .int .i64 k1, .int .i64 k2, .int .i64 X, .int .i64 Y, .int .i64 C, .slice A n c, .slice A7 n7 c7, .slice A8 n8 c8, .slice A9 n9 c9], .int .i64 x3, .int .i64 x4] w (True_ w) := by
  have HTI := Lib.hid (Cl.tight' (small_cl hv))
  have HTF := Lib.hid (HTI.out.toTight.forget L)
  have HV := Lib.hid hv
  have HP := Lib.hid hp
  have HQ := Lib.hid hq
  have HQ6 := Lib.hid hq6
  have HN := Lib.hid hn
  have HC2 := Lib.hid (second_cl hv hn)
  have HTN := Lib.hid (Cl.tight HC2.out)
  have HMN := Lib.hid (HTN.out.meets q)
  have HMM := Lib.hid (meets_in (second_in hn) HTI.out.ok HMN.out)
  have HME := Lib.hid (second_met HC2.out HMN.out)
  clear hv hp hq hq6 hp6 hn
  have I0 := Lib.hid i0
  have I1 := Lib.hid i1
  have I := Lib.hid i
  have HX := Lib.hid hX
  have HY := Lib.hid hY
  have HC := Lib.hid hC
  have B3 := Lib.hid b3
  have B4 := Lib.hid b4
  have HLS0 := Lib.hid (show (smallL L0).length ≤ 7000000000000 by have : (smallL L0).length ≤ L0.length := List.length_filter_le _ _; have := i0.len; have := i0.reach; omega)
  have HWS0 := Lib.hid (wrongL_small L0)
  have HLS1 := Lib.hid (show (smallL L1).length ≤ 7000000000000 by have : (smallL L1).length ≤ L1.length := List.length_filter_le _ _; have := i1.len; have := i1.reach; omega)
  have HWS1 := Lib.hid (wrongL_small L1)
  clear i0 i1 i hX hY hC b3 b4
  obtain ⟨w1, hw1⟩ : ∃ w1, w1 = w.alloc (.cells #[.int .i64 k0, .int .i64 k1, .int .i64 k2, .int .i64 X, .int .i64 Y, .int .i64 C, .slice A n c, .slice A7 n7 c7, .slice A8 n8 c8, .slice A9 n9 c9] 57) := ⟨_, rfl⟩
  have HOP := Lib.hid (show OpAt w1 w.heap.size X Y C (.slice A n c) by rw [hw1]; exact ⟨by simp, by simp [go_sem], by simp [go_sem], by simp [go_sem], by simp [go_sem]⟩)
  have HBx := Lib.hid (show Below w.heap.size w w1 by rw [hw1]; exact below_box w _)
  have HW1 := Lib.hid hw1
  clear hw1
  go_enter Try.func6, Try.ntmps6
  go_upto_region 1 with (fail)
  rw [← HW1.out]
  clear HW1
  obtain ⟨bx, hbx⟩ : ∃ bx, bx = w.heap.size := ⟨_, rfl⟩
  rw [← hbx] at HOP ⊢
  have HBX := Lib.hid hbx
  clear hbx
  have S0 := Lib.hid (show St w w1 [] from (St.start w).up HBx.out)
  clear HBx
  go_wp2_with fail
  go_at_call 9
  refine (New_law _).mono ?_
  rintro e W1 ⟨g0, rfl, hg, hz, hB⟩
  have S1 := Lib.hid (show St w W1 [(g0, some topT)] from (S0.out.up hB).add hz)
  have THOP := Lib.hid (HOP.out.up hB)
  clear HOP
  have HOP := THOP
  clear THOP
  clear hB S0 hz hg
  go_wp2_with fail
  go_at_call 19
  refine (small_any _ A0 n0 c0 L0 (lw_conb I0.out S1.out.1)).mono ?_
  rintro e W2 ⟨As, ns, cs, rfl, hLs, hcs, hAs, hB⟩
  have HAs1 := Lib.hid hAs
  have HNs1 := Lib.hid hLs
  have HCs1 := Lib.hid hcs
  have S2 := Lib.hid (show St w W2 [(g0, some topT)] from (S1.out.up hB))
  have THOP := Lib.hid (HOP.out.up hB)
  clear HOP
  have HOP := THOP
  clear THOP
  clear hB S1 hAs hLs hcs
  go_wp2_with fail
  go_at_call 11
  refine (cons_law _ As ns cs (smallL L0) (HNs1.out) (by have := HNs1.out; have := HLS0.out; omega) HAs1.out).mono ?_
  rintro e W3 ⟨Al2, nl2, cl2, rfl, hL2, hc2, hA2, hB⟩
  have HA2 := Lib.hid hA2
  have HL102 := Lib.hid hL2
  have S3 := Lib.hid (show St w W3 [(g0, some topT)] from (S2.out.up hB))
  have THOP := Lib.hid (HOP.out.up hB)
  clear HOP
  have HOP := THOP
  clear THOP
  clear hB S2 hA2 hL2 hc2
  go_wp2_with fail
  go_at_call 10
  refine (With_law _ g0 (some topT) Al2 nl2 cl2 (smallL L0) (S3.out.2 (g0, some topT) (by simp)) HL102.out (by have := HL102.out; have := HLS0.out; omega) HA2.out HWS0.out).mono ?_
  rintro e W4 ⟨gz, rfl, hz, hB⟩
  rw [HV.out] at hz
  have S4 := Lib.hid (show St w W4 [(gz, some M), (g0, some topT)] from (S3.out.up hB).add hz)
  have THOP := Lib.hid (HOP.out.up hB)
  clear HOP
  have HOP := THOP
  clear THOP
  clear hB S3 hz HA2 HL102
  go_wp2_with fail
  go_at_call 24
  refine (Empty_any _ gz (some M) (S4.out.2 (gz, some M) (by simp))).mono ?_
  rintro e W5 ⟨rfl, rfl⟩
  rw [show voidB (some M) = false from rfl]
  have S5 := S4
  clear S4
  go_wp2_with fail
  go_at_call 22
  refine (place_any _ 60 _ B3.out (by omega) (by omega)).mono ?_
  rintro e w' ⟨rfl, rfl⟩
  rw [HP.out]
  go_wp2_with fail
  go_at_call 22
  refine (place_any _ 60 _ B4.out (by omega) (by omega)).mono ?_
  rintro e w' ⟨rfl, rfl⟩
  rw [HQ.out]
  go_wp2_with fail
  go_at_call 19
  refine (small_any _ A1 n1 c1 L1 (lw_conb I1.out S5.out.1)).mono ?_
  rintro e W6 ⟨As, ns, cs, rfl, hLs, hcs, hAs, hB⟩
  have HAs5 := Lib.hid hAs
  have HNs5 := Lib.hid hLs
  have HCs5 := Lib.hid hcs
  have S6 := Lib.hid (show St w W6 [(gz, some M), (g0, some topT)] from (S5.out.up hB))
  have THOP := Lib.hid (HOP.out.up hB)
  clear HOP
  have HOP := THOP
  clear THOP
  clear hB S5 hAs hLs hcs
  go_wp2_with fail
  go_at_call 11
  refine (cons_law _ As ns cs (smallL L1) (HNs5.out) (by have := HNs5.out; have := HLS1.out; omega) HAs5.out).mono ?_
  rintro e W7 ⟨Al6, nl6, cl6, rfl, hL6, hc6, hA6, hB⟩
  have HA6 := Lib.hid hA6
  have HL106 := Lib.hid hL6
  have S7 := Lib.hid (show St w W7 [(gz, some M), (g0, some topT)] from (S6.out.up hB))
  have THOP := Lib.hid (HOP.out.up hB)
  clear HOP
  have HOP := THOP
  clear THOP
  clear hB S6 hA6 hL6 hc6
  go_wp2_with fail
  go_at_call 10
  refine (With_law _ gz (some M) Al6 nl6 cl6 (smallL L1) (S7.out.2 (gz, some M) (by simp)) HL106.out (by have := HL106.out; have := HLS1.out; omega) HA6.out HWS1.out).mono ?_
  rintro e W8 ⟨gn, rfl, hz, hB⟩
  rw [HN.out] at hz
  have S8 := Lib.hid (show St w W8 [(gn, some N), (gz, some M), (g0, some topT)] from (S7.out.up hB).add hz)
  have THOP := Lib.hid (HOP.out.up hB)
  clear HOP
  have HOP := THOP
  clear THOP
  clear hB S7 hz HA6 HL106
  go_wp2_with fail
  go_at_call 24
  refine (Empty_any _ gn (some N) (S8.out.2 (gn, some N) (by simp))).mono ?_
  rintro e W9 ⟨rfl, rfl⟩
  rw [show voidB (some N) = false from rfl]
  have S9 := S8
  clear S8
  go_wp2_with fail
  go_at_call 41
  refine (Reach_any _ gn N _ q (S9.out.2 (gn, some N) (by simp)) HQ6.out).mono ?_
  rintro e W10 ⟨ga, rfl, hg, hv, hB⟩
  have HVga := Lib.hid hv
  have S10 := Lib.hid (show St w W10 [(gn, some N), (gz, some M), (g0, some topT)] from (S9.out.up hB))
  have THOP := Lib.hid (HOP.out.up hB)
  clear HOP
  have HOP := THOP
  clear THOP
  clear hB S9 hg hv
  go_wp2_with fail
  go_at_call 13
  refine (meets_yes _ gn N (S10.out.2 (gn, some N) (by simp)) ga (reachV N q) HVga.out (HTN.out.i64r q) HMN.out).mono ?_
  rintro e W11 ⟨rfl, hB⟩
  have S11 := Lib.hid (show St w W11 [(gn, some N), (gz, some M), (g0, some topT)] from (S10.out.up hB))
  have THOP := Lib.hid (HOP.out.up hB)
  clear HOP
  have HOP := THOP
  clear THOP
  have THVga := Lib.hid (HVga.out.up hB)
  clear HVga
  have HVga := THVga
  clear THVga
  clear hB S10
  go_wp2_with fail
  go_at_call 13
  refine (meets_yes _ gz M (S11.out.2 (gz, some M) (by simp)) ga (reachV N q) HVga.out (HTN.out.i64r q) HMM.out).mono ?_
  rintro e W12 ⟨rfl, hB⟩
  have S12 := Lib.hid (show St w W12 [(gn, some N), (gz, some M), (g0, some topT)] from (S11.out.up hB))
  have THOP := Lib.hid (HOP.out.up hB)
  clear HOP
  have HOP := THOP
  clear THOP
  have THVga := Lib.hid (HVga.out.up hB)
  clear HVga
  have HVga := THVga
  clear THVga
  clear hB S11
  go_wp2_with fail
  go_at_call 19
  refine (small_any _ A1 n1 c1 L1 (lw_conb I1.out S12.out.1)).mono ?_
  rintro e W13 ⟨As, ns, cs, rfl, hLs, hcs, hAs, hB⟩
  have HAs12 := Lib.hid hAs
  have HNs12 := Lib.hid hLs
  have HCs12 := Lib.hid hcs
  have S13 := Lib.hid (show St w W13 [(gn, some N), (gz, some M), (g0, some topT)] from (S12.out.up hB))
  have THOP := Lib.hid (HOP.out.up hB)
  clear HOP
  have HOP := THOP
  clear THOP
  have THVga := Lib.hid (HVga.out.up hB)
  clear HVga
  have HVga := THVga
  clear THVga
  clear hB S12 hAs hLs hcs
  go_wp2_with fail
  go_at_call 12
  refine (met_any _ As ns cs (smallL L1) (lw_con I1.out HNs12.out HCs12.out HAs12.out) ga (reachV N q) HVga.out (HTN.out.i64r q)).mono ?_
  rintro e W14 ⟨Am, nm, cm, rfl, hLm, -, -, hB⟩
  have hnm : nm = ns := by rw [← hLm, HME.out, HNs12.out]
  subst hnm
  clear hLm
  have HNM := HNs12
  have S14 := Lib.hid (show St w W14 [(gn, some N), (gz, some M), (g0, some topT)] from (S13.out.up hB))
  have THOP := Lib.hid (HOP.out.up hB)
  clear HOP
  have HOP := THOP
  clear THOP
  have THVga := Lib.hid (HVga.out.up hB)
  clear HVga
  have HVga := THVga
  clear THVga
  clear hB S13
  go_wp2_with fail
  go_at_call 19
  refine (small_any _ A1 n1 c1 L1 (lw_conb I1.out S14.out.1)).mono ?_
  rintro e W15 ⟨As2, ns2, cs2, rfl, hLs, hcs, hAs, hB⟩
  obtain rfl : ns2 = nm := by rw [← hLs, HNM.out]
  clear hLs hcs hAs
  have S15 := Lib.hid (show St w W15 [(gn, some N), (gz, some M), (g0, some topT)] from (S14.out.up hB))
  have THOP := Lib.hid (HOP.out.up hB)
  clear HOP
  have HOP := THOP
  clear THOP
  have THVga := Lib.hid (HVga.out.up hB)
  clear HVga
  have HVga := THVga
  clear THVga
  clear hB S14
  have v6 := HOP.out.vs
  go_wp2_with fail
  go_at_call 34
  refine (copyInts_any _ A n c L (lw_numb I.out S15.out.1)).mono ?_
  rintro e W16 ⟨Av, cv, rfl, hAv, hB⟩
  have HAv := Lib.hid hAv
  clear v6
  have S16 := Lib.hid (show St w W16 [(gn, some N), (gz, some M), (g0, some topT)] from (S15.out.up hB))
  have THOP := Lib.hid (HOP.out.up hB)
  clear HOP
  have HOP := THOP
  clear THOP
  have THVga := Lib.hid (HVga.out.up hB)
  clear HVga
  have HVga := THVga
  clear THVga
  clear hB S15 hAv
  go_wp2_with fail
  go_at_call 35
  refine (Forget_any _ gz (some M) Av n cv L (S16.out.2 (gz, some M) (by simp)) I.out.len (by have := I.out.reach; omega) HAv.out).mono ?_
  rintro e W17 ⟨gf, rfl, hg, hz, hB⟩
  have S17 := Lib.hid (show St w W17 [(gf, some (forgetT M L)), (gn, some N), (gz, some M), (g0, some topT)] from (S16.out.up hB).add hz)
  have THOP := Lib.hid (HOP.out.up hB)
  clear HOP
  have HOP := THOP
  clear THOP
  have THVga := Lib.hid (HVga.out.up hB)
  clear HVga
  have HVga := THVga
  clear THVga
  clear hB S16 hz hg HAv
  go_wp2_with fail
  go_at_call 41
  refine (Reach_any _ gf (forgetT M L) _ q (S17.out.2 (gf, some (forgetT M L)) (by simp)) HQ6.out).mono ?_
  rintro e W18 ⟨gb, rfl, hg, hv, hB⟩
  have HVgb := Lib.hid hv
  have S18 := Lib.hid (show St w W18 [(gf, some (forgetT M L)), (gn, some N), (gz, some M), (g0, some topT)] from (S17.out.up hB))
  have THOP := Lib.hid (HOP.out.up hB)
  clear HOP
  have HOP := THOP
  clear THOP
  have THVga := Lib.hid (HVga.out.up hB)
  clear HVga
  have HVga := THVga
  clear THVga
  clear hB S17 hg hv
  have v6 := HOP.out.vs
  go_wp2_with fail
  go_at_call 42
  refine (extend_any _ gz gb M (reachV (forgetT M L) q) A n c L (S18.out.2 (gz, some M) (by simp)) HVgb.out I.out.len I.out.reach (lw_numb I.out S18.out.1).at_ HTI.out.toTight (ext_forget HTI.out.toTight L q)).mono ?_
  rintro e W19 ⟨ge, rfl, hB⟩
  clear v6
  have S19 := Lib.hid (show St w W19 [(gf, some (forgetT M L)), (gn, some N), (gz, some M), (g0, some topT)] from (S18.out.up hB))
  have THOP := Lib.hid (HOP.out.up hB)
  clear HOP
  have HOP := THOP
  clear THOP
  have THVga := Lib.hid (HVga.out.up hB)
  clear HVga
  have HVga := THVga
  clear THVga
  have THVgb := Lib.hid (HVgb.out.up hB)
  clear HVgb
  have HVgb := THVgb
  clear THVgb
  clear hB S18
  go_wp2_with fail
  go_at_call 13
  refine (meets_yes _ gf (forgetT M L) (S19.out.2 (gf, some (forgetT M L)) (by simp)) gb (reachV (forgetT M L) q) HVgb.out (HTF.out.i64r q) (HTF.out.meets q)).mono ?_
  rintro e W20 ⟨rfl, hB⟩
  have S20 := Lib.hid (show St w W20 [(gf, some (forgetT M L)), (gn, some N), (gz, some M), (g0, some topT)] from (S19.out.up hB))
  have THOP := Lib.hid (HOP.out.up hB)
  clear HOP
  have HOP := THOP
  clear THOP
  have THVga := Lib.hid (HVga.out.up hB)
  clear HVga
  have HVga := THVga
  clear THVga
  have THVgb := Lib.hid (HVgb.out.up hB)
  clear HVgb
  have HVgb := THVgb
  clear THVgb
  clear hB S19
  go_upto_region 20 with (fail)
  have v3 := HOP.out.x
  have v4 := HOP.out.y
  have v5 := HOP.out.c
  rcases seven_ways X Y C with t1 | ⟨t1, t2⟩ | ⟨t1, t2, t3⟩ | ⟨t1, t2, t3, t4⟩ | ⟨t1, t2, t3, t4, t5⟩ | ⟨t1, t2, t3, t4, t5, t6⟩ | ⟨t1, t2, t3, t4, t5, t6⟩
  iterate 6
    · go_wp2_with fail
      go_at_call 14
      refine (awake_any _).mono ?_
      rintro e WZ ⟨rfl, hB⟩
      have SZ := Lib.hid (S20.out.1.trans (hB.mono S20.out.1.size))
      clear hB
      go_wp2_with fail
      go_ret
      exact ⟨rfl, SZ.out⟩
  have c1 := of_decide_eq_false t1
  have c2 := of_decide_eq_false t2
  have c3 := of_decide_eq_false t3
  have c4 := of_decide_eq_false t4
  have c5 := of_decide_eq_false t5
  have c6 := of_decide_eq_false t6
  obtain ⟨nx, rfl⟩ : ∃ nx : Nat, X = nx := ⟨X.toNat, by omega⟩
  obtain ⟨ny, rfl⟩ : ∃ ny : Nat, Y = ny := ⟨Y.toNat, by omega⟩
  have HX6 := Lib.hid (show nx < 60 by omega)
  have HX1 := Lib.hid (show 1 ≤ nx by omega)
  have HY6 := Lib.hid (show ny < 60 by omega)
  have HC40 := Lib.hid (show -1099511627776 ≤ C ∧ C ≤ 1099511627776 by omega)
  have HRC := Lib.hid (show rngB C = true by unfold rngB; simp; omega)
  clear c1 c2 c3 c4 c5 c6
  have HTT := Lib.hid (HTI.out.assign HX6.out HY6.out HC40.out)
  go_upto_region 22 with (fail)
  clear t1 t2 t3 t4 t5 t6
  go_wp2_with fail
  go_at_call 36
  refine (Assign_law _ gz (some M) nx ny C (S20.out.2 (gz, some M) (by simp)) HX6.out HX1.out HY6.out HRC.out).mono ?_
  rintro e W21 ⟨gt, rfl, hz, hB⟩
  replace hz : ZoneAt W21 gt (some (assignT M nx ny C)) := hz
  clear v3 v4 v5
  have S21 := Lib.hid (show St w W21 [(gt, some (assignT M nx ny C)), (gf, some (forgetT M L)), (gn, some N), (gz, some M), (g0, some topT)] from (S20.out.up hB).add hz)
  have THOP := Lib.hid (HOP.out.up hB)
  clear HOP
  have HOP := THOP
  clear THOP
  have THVga := Lib.hid (HVga.out.up hB)
  clear HVga
  have HVga := THVga
  clear THVga
  have THVgb := Lib.hid (HVgb.out.up hB)
  clear HVgb
  have HVgb := THVgb
  clear THVgb
  clear hB S20 hz
  go_wp2_with fail
  go_at_call 41
  refine (Reach_any _ gt (assignT M nx ny C) _ q (S21.out.2 (gt, some (assignT M nx ny C)) (by simp)) HQ6.out).mono ?_
  rintro e W22 ⟨gr, rfl, hg, hv, hB⟩
  have HVgr := Lib.hid hv
  have S22 := Lib.hid (show St w W22 [(gt, some (assignT M nx ny C)), (gf, some (forgetT M L)), (gn, some N), (gz, some M), (g0, some topT)] from (S21.out.up hB))
  have THOP := Lib.hid (HOP.out.up hB)
  clear HOP
  have HOP := THOP
  clear THOP
  have THVga := Lib.hid (HVga.out.up hB)
  clear HVga
  have HVga := THVga
  clear THVga
  have THVgb := Lib.hid (HVgb.out.up hB)
  clear HVgb
  have HVgb := THVgb
  clear THVgb
  clear hB S21 hg hv
  have HTM := Lib.hid (HTT.out.meets q)
  have HTR := Lib.hid (reachV_rng HTT.out q)
  have HTJ := Lib.hid (HTT.out.i64r q)
  have HEX := Lib.hid (ext_assign HTI.out HX1.out HX6.out HY6.out HC40.out q)
  generalize reachV (assignT M nx ny C) q = b at *
  have v3 := HOP.out.x
  have v4 := HOP.out.y
  by_cases hxy : nx = ny
  · have te : ((nx : Int) == (ny : Int)) = true := by rw [hxy]; exact beq_self_eq_true _
    have HXY := Lib.hid hxy
    clear hxy
    go_upto_region 27 with (fail)
    clear te v3 v4
    obtain ⟨b1, b2⟩ := HTR.out nx HX6.out
    obtain ⟨b3, b4⟩ := HTR.out ny HY6.out
    obtain ⟨cc1, cc2⟩ := HC40.out
    have hx0 : (0 : Int) ≤ nx := by omega
    have hx6 : (nx : Int) < 60 := by have := HX6.out; omega
    have hx6n := HX6.out
    have hy0 : (0 : Int) ≤ ny := by omega
    have hy6 : (ny : Int) < 60 := by have := HY6.out; omega
    have hy6n := HY6.out
    have HOs := Lib.hid (HOP.out.up (below_drewN' (Below.refl _ _) 1))
    have HVs := Lib.hid (HVgr.out.up (below_drewN' (Below.refl _ _) 1))
    have HSs := Lib.hid (S22.out.up (below_drewN' (Below.refl _ _) 1))
    have hw : IntKind.i64.wrap (b nx - C) = b nx - C := IntWalk.i64_in _ (by omega)
    have HBK := Lib.hid (assign_back (M := M) HTI.out HX6.out HC40.out (a := b) (by have := HTM.out; rwa [← HXY.out] at this))
    have HNI := Lib.hid (show I64 (b nx - C) by unfold I64; omega)
    refine wp_region_held_drew (S := (fun W => W.cell? ⟨bx, 3, none⟩ = some (.int .i64 nx) ∧ W.cell? ⟨bx, 4, none⟩ = some (.int .i64 ny) ∧ W.cell? ⟨bx, 5, none⟩ = some (.int .i64 C) ∧ W.cell? ⟨gr, nx, none⟩ = some (.int .i64 (b nx)) ∧ W.cell? ⟨gr, ny, none⟩ = some (.int .i64 (b ny)))) (by kernel_rfl) ⟨HOs.out.x, HOs.out.y, HOs.out.c, HVs.out.at_ nx HX6.out, HVs.out.at_ ny HY6.out⟩ (fun hHeld => ?_)
    refine wpAnyH_take (i := 0) (oi := { dst := some 165, op := Op.move (Operand.tmp 21), type := 25, pos := "law.go:585", after := #[], guard := none }) (v := .pointer (some ⟨gt, 0, none⟩)) rfl (by kernel_rfl) (by kernel_rfl) (by kernel_rfl) (fun _ _ _ h => h) (Or.inl ⟨by rfl, ?_⟩) (by assumption) ?_
    · intro w hSw
      (try dsimp only at hSw)
      go_simp
      all_goals (first | assumption | rfl | (simp; done) | (simp only [*]; done) | omega | (simp; omega))
    try simp only [Act.put, List.setIfInBounds_toArray, List.set_cons_zero, List.set_cons_succ]
    refine wpAnyH_take (i := 1) (oi := { dst := some 166, op := Op.move (Operand.tmp 18), type := 22, pos := "law.go:585", after := #[], guard := none }) (v := vecV gr) rfl (by kernel_rfl) (by kernel_rfl) (by kernel_rfl) (fun _ _ _ h => h) (Or.inl ⟨by rfl, ?_⟩) (by assumption) ?_
    · intro w hSw
      (try dsimp only at hSw)
      go_simp
      all_goals (first | assumption | rfl | (simp; done) | (simp only [*]; done) | omega | (simp; omega))
    try simp only [Act.put, List.setIfInBounds_toArray, List.set_cons_zero, List.set_cons_succ]
    refine wpAnyH_ready (rs := [2]) (by kernel_rfl) (by simp) ?_
    refine AllReadyH.cons (o := { dst := some 167, op := Op.call { callee := Callee.value (Operand.func 13), args := #[Operand.tmp 165, Operand.tmp 166], argTypes := #[25, 22] }, type := 4, pos := "law.go:585", after := #[{ on := 0, ground := Ground.data }, { on := 1, ground := Ground.data }], guard := none }) rfl (fun K hK => ?_) ?_
    rotate_left
    · exact AllReadyH.nil
    go_simp
    go_at_call 13
    refine (meets_yes _ gt (assignT M nx ny C) (HSs.out.2 (gt, some (assignT M nx ny C)) (by simp)) gr b HVs.out HTJ.out HTM.out).mono ?_
    rintro e Wt ⟨rfl, hB⟩
    have HOt := Lib.hid (HOs.out.up hB)
    have HVt := Lib.hid (HVs.out.up hB)
    have HSt := Lib.hid (HSs.out.up hB)
    clear hB
    refine hK.out _ _ ?_ (fun hHeld => ?_)
    · (try dsimp only)
      exact ⟨HOt.out.x, HOt.out.y, HOt.out.c, HVt.out.at_ nx HX6.out, HVt.out.at_ ny HY6.out⟩
    clear hK K
    try simp only [Act.put, List.setIfInBounds_toArray, List.set_cons_zero, List.set_cons_succ]
    refine wpAnyH_take (i := 3) (oi := { dst := some 168, op := Op.move (Operand.tmp 167), type := 4, pos := "law.go:585", after := #[{ on := 2, ground := Ground.data }, { on := 2, ground := Ground.chain }], guard := none }) (v := .bool true) rfl (by kernel_rfl) (by kernel_rfl) (by kernel_rfl) (fun _ _ _ h => h) (Or.inl ⟨by rfl, ?_⟩) (by assumption) ?_
    · intro w hSw
      (try dsimp only at hSw)
      go_simp
      all_goals (first | assumption | rfl | (simp; done) | (simp only [*]; done) | omega | (simp; omega))
    try simp only [Act.put, List.setIfInBounds_toArray, List.set_cons_zero, List.set_cons_succ]
    refine wpAnyH_take (i := 4) (oi := { dst := some 169, op := Op.move (Operand.tmp 11), type := 25, pos := "law.go:585", after := #[{ on := 3, ground := Ground.guard }], guard := some (3, true) }) (v := .pointer (some ⟨gz, 0, none⟩)) rfl (by kernel_rfl) (by kernel_rfl) (by kernel_rfl) (fun _ _ _ h => h) (Or.inl ⟨by rfl, ?_⟩) (by assumption) ?_
    · intro w hSw
      (try dsimp only at hSw)
      go_simp
      all_goals (first | assumption | rfl | (simp; done) | (simp only [*]; done) | omega | (simp; omega))
    try simp only [Act.put, List.setIfInBounds_toArray, List.set_cons_zero, List.set_cons_succ]
    refine wpAnyH_take (i := 5) (oi := { dst := some 170, op := Op.move (Operand.tmp 18), type := 22, pos := "law.go:585", after := #[{ on := 3, ground := Ground.guard }], guard := some (3, true) }) (v := vecV gr) rfl (by kernel_rfl) (by kernel_rfl) (by kernel_rfl) (fun _ _ _ h => h) (Or.inl ⟨by rfl, ?_⟩) (by assumption) ?_
    · intro w hSw
      (try dsimp only at hSw)
      go_simp
      all_goals (first | assumption | rfl | (simp; done) | (simp only [*]; done) | omega | (simp; omega))
    try simp only [Act.put, List.setIfInBounds_toArray, List.set_cons_zero, List.set_cons_succ]
    refine wpAnyH_take (i := 6) (oi := { dst := some 171, op := Op.fieldAddr 57 (Operand.tmp 7) 3, type := 0, pos := "law.go:585", after := #[{ on := 3, ground := Ground.guard }], guard := some (3, true) }) (v := .pointer (some ⟨bx, 3, none⟩)) rfl (by kernel_rfl) (by kernel_rfl) (by kernel_rfl) (fun _ _ _ h => h) (Or.inl ⟨by rfl, ?_⟩) (by assumption) ?_
    · intro w hSw
      (try dsimp only at hSw)
      go_simp
      all_goals (first | assumption | rfl | (simp; done) | (simp only [*]; done) | omega | (simp; omega))
    try simp only [Act.put, List.setIfInBounds_toArray, List.set_cons_zero, List.set_cons_succ]
    refine wpAnyH_take (i := 7) (oi := { dst := some 172, op := Op.load 3 (Operand.tmp 171), type := 3, pos := "law.go:585", after := #[{ on := 6, ground := Ground.data }, { on := 3, ground := Ground.guard }], guard := some (3, true) }) (v := .int .i64 nx) rfl (by kernel_rfl) (by kernel_rfl) (by kernel_rfl) (fun _ _ _ h => h) (Or.inl ⟨by rfl, ?_⟩) (by assumption) ?_
    · intro w hSw
      (try dsimp only at hSw)
      go_simp
      all_goals (first | assumption | rfl | (simp; done) | (simp only [*]; done) | omega | (simp; omega))
    try simp only [Act.put, List.setIfInBounds_toArray, List.set_cons_zero, List.set_cons_succ]
    refine wpAnyH_take (i := 8) (oi := { dst := some 173, op := Op.move (Operand.tmp 18), type := 22, pos := "law.go:585", after := #[{ on := 3, ground := Ground.guard }], guard := some (3, true) }) (v := vecV gr) rfl (by kernel_rfl) (by kernel_rfl) (by kernel_rfl) (fun _ _ _ h => h) (Or.inl ⟨by rfl, ?_⟩) (by assumption) ?_
    · intro w hSw
      (try dsimp only at hSw)
      go_simp
      all_goals (first | assumption | rfl | (simp; done) | (simp only [*]; done) | omega | (simp; omega))
    try simp only [Act.put, List.setIfInBounds_toArray, List.set_cons_zero, List.set_cons_succ]
    refine wpAnyH_take (i := 9) (oi := { dst := some 174, op := Op.fieldAddr 57 (Operand.tmp 7) 3, type := 0, pos := "law.go:585", after := #[{ on := 3, ground := Ground.guard }], guard := some (3, true) }) (v := .pointer (some ⟨bx, 3, none⟩)) rfl (by kernel_rfl) (by kernel_rfl) (by kernel_rfl) (fun _ _ _ h => h) (Or.inl ⟨by rfl, ?_⟩) (by assumption) ?_
    · intro w hSw
      (try dsimp only at hSw)
      go_simp
      all_goals (first | assumption | rfl | (simp; done) | (simp only [*]; done) | omega | (simp; omega))
    try simp only [Act.put, List.setIfInBounds_toArray, List.set_cons_zero, List.set_cons_succ]
    refine wpAnyH_take (i := 10) (oi := { dst := some 175, op := Op.load 3 (Operand.tmp 174), type := 3, pos := "law.go:585", after := #[{ on := 9, ground := Ground.data }, { on := 3, ground := Ground.guard }], guard := some (3, true) }) (v := .int .i64 nx) rfl (by kernel_rfl) (by kernel_rfl) (by kernel_rfl) (fun _ _ _ h => h) (Or.inl ⟨by rfl, ?_⟩) (by assumption) ?_
    · intro w hSw
      (try dsimp only at hSw)
      go_simp
      all_goals (first | assumption | rfl | (simp; done) | (simp only [*]; done) | omega | (simp; omega))
    try simp only [Act.put, List.setIfInBounds_toArray, List.set_cons_zero, List.set_cons_succ]
    refine wpAnyH_take (i := 11) (oi := { dst := some 176, op := Op.indexAddr 22 (Operand.tmp 173) (Operand.tmp 175), type := 0, pos := "law.go:585", after := #[{ on := 8, ground := Ground.data }, { on := 10, ground := Ground.data }, { on := 3, ground := Ground.guard }], guard := some (3, true) }) (v := .pointer (some ⟨gr, nx, none⟩)) rfl (by kernel_rfl) (by kernel_rfl) (by kernel_rfl) (fun _ _ _ h => h) (Or.inl ⟨by rfl, ?_⟩) (by assumption) ?_
    · intro w hSw
      (try dsimp only at hSw)
      go_simp
      all_goals (first | assumption | rfl | (simp; done) | (simp only [*]; done) | omega | (simp; omega))
    try simp only [Act.put, List.setIfInBounds_toArray, List.set_cons_zero, List.set_cons_succ]
    refine wpAnyH_take (i := 12) (oi := { dst := some 177, op := Op.load 3 (Operand.tmp 176), type := 3, pos := "law.go:585", after := #[{ on := 11, ground := Ground.data }, { on := 3, ground := Ground.guard }], guard := some (3, true) }) (v := .int .i64 (b nx)) rfl (by kernel_rfl) (by kernel_rfl) (by kernel_rfl) (fun _ _ _ h => h) (Or.inl ⟨by rfl, ?_⟩) (by assumption) ?_
    · intro w hSw
      (try dsimp only at hSw)
      go_simp
      all_goals (first | assumption | rfl | (simp; done) | (simp only [*]; done) | omega | (simp; omega))
    try simp only [Act.put, List.setIfInBounds_toArray, List.set_cons_zero, List.set_cons_succ]
    refine wpAnyH_take (i := 13) (oi := { dst := some 178, op := Op.fieldAddr 57 (Operand.tmp 7) 5, type := 0, pos := "law.go:585", after := #[{ on := 3, ground := Ground.guard }], guard := some (3, true) }) (v := .pointer (some ⟨bx, 5, none⟩)) rfl (by kernel_rfl) (by kernel_rfl) (by kernel_rfl) (fun _ _ _ h => h) (Or.inl ⟨by rfl, ?_⟩) (by assumption) ?_
    · intro w hSw
      (try dsimp only at hSw)
      go_simp
      all_goals (first | assumption | rfl | (simp; done) | (simp only [*]; done) | omega | (simp; omega))
    try simp only [Act.put, List.setIfInBounds_toArray, List.set_cons_zero, List.set_cons_succ]
    refine wpAnyH_take (i := 14) (oi := { dst := some 179, op := Op.load 3 (Operand.tmp 178), type := 3, pos := "law.go:585", after := #[{ on := 13, ground := Ground.data }, { on := 3, ground := Ground.guard }], guard := some (3, true) }) (v := .int .i64 C) rfl (by kernel_rfl) (by kernel_rfl) (by kernel_rfl) (fun _ _ _ h => h) (Or.inl ⟨by rfl, ?_⟩) (by assumption) ?_
    · intro w hSw
      (try dsimp only at hSw)
      go_simp
      all_goals (first | assumption | rfl | (simp; done) | (simp only [*]; done) | omega | (simp; omega))
    try simp only [Act.put, List.setIfInBounds_toArray, List.set_cons_zero, List.set_cons_succ]
    refine wpAnyH_take (i := 15) (oi := { dst := some 180, op := Op.binOp BinOp.sub 3 (Operand.tmp 177) (Operand.tmp 179) 3, type := 3, pos := "law.go:585", after := #[{ on := 12, ground := Ground.data }, { on := 14, ground := Ground.data }, { on := 3, ground := Ground.guard }], guard := some (3, true) }) (v := .int .i64 (b nx - C)) rfl (by kernel_rfl) (by kernel_rfl) (by kernel_rfl) (fun _ _ _ h => h) (Or.inl ⟨by rfl, ?_⟩) (by assumption) ?_
    · intro w hSw
      (try dsimp only at hSw)
      go_simp
      all_goals (first | assumption | rfl | (simp; done) | (simp only [*]; done) | omega | (simp; omega))
    try simp only [Act.put, List.setIfInBounds_toArray, List.set_cons_zero, List.set_cons_succ]
    clear hw
    refine wpAnyH_ready (rs := [16]) (by kernel_rfl) (by simp) ?_
    refine AllReadyH.cons (o := { dst := some 181, op := Op.call { callee := Callee.value (Operand.func 17), args := #[Operand.tmp 170, Operand.tmp 172, Operand.tmp 180], argTypes := #[22, 3, 3] }, type := 22, pos := "law.go:585", after := #[{ on := 5, ground := Ground.data }, { on := 7, ground := Ground.data }, { on := 15, ground := Ground.data }, { on := 3, ground := Ground.chain }, { on := 3, ground := Ground.guard }], guard := some (3, true) }) rfl (fun K hK => ?_) ?_
    rotate_left
    · exact AllReadyH.nil
    go_simp
    go_at_call 17
    refine (with_any _ gr b nx (b nx - C) HVt.out HX6.out).mono ?_
    rintro e Wu ⟨gv, rfl, hg, hv, hB⟩
    have HVn := Lib.hid hv
    have HOu := Lib.hid (HOt.out.up hB)
    have HVu := Lib.hid (HVt.out.up hB)
    have HSu := Lib.hid (HSt.out.up hB)
    clear hg hv hB
    refine hK.out _ _ ?_ (fun hHeld => ?_)
    · (try dsimp only)
      exact ⟨HOu.out.x, HOu.out.y, HOu.out.c, HVu.out.at_ nx HX6.out, HVu.out.at_ ny HY6.out⟩
    clear hK K
    try simp only [Act.put, List.setIfInBounds_toArray, List.set_cons_zero, List.set_cons_succ]
    refine wpAnyH_ready (rs := [17]) (by kernel_rfl) (by simp) ?_
    refine AllReadyH.cons (o := { dst := some 182, op := Op.call { callee := Callee.value (Operand.func 13), args := #[Operand.tmp 169, Operand.tmp 181], argTypes := #[25, 22] }, type := 4, pos := "law.go:585", after := #[{ on := 4, ground := Ground.data }, { on := 16, ground := Ground.data }, { on := 16, ground := Ground.chain }, { on := 3, ground := Ground.guard }], guard := some (3, true) }) rfl (fun K hK => ?_) ?_
    rotate_left
    · exact AllReadyH.nil
    go_simp
    go_at_call 13
    refine (meets_yes _ gz M (HSu.out.2 (gz, some M) (by simp)) gv (updI b nx (b nx - C)) HVn.out (lw_upd HTJ.out HNI.out) HBK.out).mono ?_
    rintro e Wv ⟨rfl, hB⟩
    have HOv := Lib.hid (HOu.out.up hB)
    have HVv := Lib.hid (HVu.out.up hB)
    have HSv := Lib.hid (HSu.out.up hB)
    clear hB
    refine hK.out _ _ ?_ (fun hHeld => ?_)
    · (try dsimp only)
      exact ⟨HOv.out.x, HOv.out.y, HOv.out.c, HVv.out.at_ nx HX6.out, HVv.out.at_ ny HY6.out⟩
    clear hK K
    try simp only [Act.put, List.setIfInBounds_toArray, List.set_cons_zero, List.set_cons_succ]
    refine wpAnyH_take (i := 18) (oi := { dst := some 183, op := Op.pick (Operand.tmp 168) (Operand.tmp 182) (Operand.const (Value.bool false)), type := 4, pos := "law.go:585", after := #[{ on := 3, ground := Ground.data }, { on := 17, ground := Ground.data }], guard := none }) (v := .bool true) rfl (by kernel_rfl) (by kernel_rfl) (by kernel_rfl) (fun _ _ _ h => h) (Or.inl ⟨by rfl, ?_⟩) (by assumption) ?_
    · intro w hSw
      (try dsimp only at hSw)
      go_simp
      all_goals (first | assumption | rfl | (simp; done) | (simp only [*]; done) | omega | (simp; omega))
    try simp only [Act.put, List.setIfInBounds_toArray, List.set_cons_zero, List.set_cons_succ]
    refine wpAnyH_take (i := 19) (oi := { dst := some 184, op := Op.move (Operand.tmp 183), type := 4, pos := "law.go:585", after := #[{ on := 18, ground := Ground.data }, { on := 17, ground := Ground.chain }], guard := none }) (v := .bool true) rfl (by kernel_rfl) (by kernel_rfl) (by kernel_rfl) (fun _ _ _ h => h) (Or.inl ⟨by rfl, ?_⟩) (by assumption) ?_
    · intro w hSw
      (try dsimp only at hSw)
      go_simp
      all_goals (first | assumption | rfl | (simp; done) | (simp only [*]; done) | omega | (simp; omega))
    try simp only [Act.put, List.setIfInBounds_toArray, List.set_cons_zero, List.set_cons_succ]
    refine wpAnyH_ready (rs := [20]) (by kernel_rfl) (by simp) ?_
    refine AllReadyH.cons (o := { dst := some 185, op := Op.call { callee := Callee.value (Operand.func 14), args := #[], argTypes := #[] }, type := 4, pos := "law.go:585", after := #[{ on := 19, ground := Ground.chain }, { on := 19, ground := Ground.guard }], guard := some (19, true) }) rfl (fun K hK => ?_) ?_
    rotate_left
    · exact AllReadyH.nil
    go_simp
    go_at_call 14
    refine (awake_any _).mono ?_
    rintro e Wx ⟨rfl, hB⟩
    have HOx := Lib.hid (HOv.out.up hB)
    have HVx := Lib.hid (HVv.out.up hB)
    have HSx := Lib.hid (HSv.out.up hB)
    clear hB
    refine hK.out _ _ ?_ (fun hHeld => ?_)
    · (try dsimp only)
      exact ⟨HOx.out.x, HOx.out.y, HOx.out.c, HVx.out.at_ nx HX6.out, HVx.out.at_ ny HY6.out⟩
    clear hK K
    try simp only [Act.put, List.setIfInBounds_toArray, List.set_cons_zero, List.set_cons_succ]
    refine wpAnyH_take (i := 21) (oi := { dst := some 186, op := Op.pick (Operand.tmp 184) (Operand.tmp 185) (Operand.const (Value.bool false)), type := 4, pos := "law.go:585", after := #[{ on := 19, ground := Ground.data }, { on := 20, ground := Ground.data }], guard := none }) (v := .bool true) rfl (by kernel_rfl) (by kernel_rfl) (by kernel_rfl) (fun _ _ _ h => h) (Or.inl ⟨by rfl, ?_⟩) (by assumption) ?_
    · intro w hSw
      (try dsimp only at hSw)
      go_simp
      all_goals (first | assumption | rfl | (simp; done) | (simp only [*]; done) | omega | (simp; omega))
    try simp only [Act.put, List.setIfInBounds_toArray, List.set_cons_zero, List.set_cons_succ]
    refine wpAnyH_take (i := 22) (oi := { dst := some 10, op := Op.assign (Operand.tmp 186), type := 4, pos := "law.go:585", after := #[{ on := 21, ground := Ground.data }, { on := 20, ground := Ground.chain }, { on := 0, ground := Ground.phase }, { on := 1, ground := Ground.phase }, { on := 2, ground := Ground.phase }, { on := 3, ground := Ground.phase }, { on := 4, ground := Ground.phase }, { on := 5, ground := Ground.phase }, { on := 6, ground := Ground.phase }, { on := 7, ground := Ground.phase }, { on := 8, ground := Ground.phase }, { on := 9, ground := Ground.phase }, { on := 10, ground := Ground.phase }, { on := 11, ground := Ground.phase }, { on := 12, ground := Ground.phase }, { on := 13, ground := Ground.phase }, { on := 14, ground := Ground.phase }, { on := 15, ground := Ground.phase }, { on := 16, ground := Ground.phase }, { on := 17, ground := Ground.phase }, { on := 18, ground := Ground.phase }, { on := 19, ground := Ground.phase }, { on := 20, ground := Ground.phase }, { on := 21, ground := Ground.phase }], guard := none }) (v := .bool true) rfl (by kernel_rfl) (by kernel_rfl) (by kernel_rfl) (fun _ _ _ h => h) (Or.inl ⟨by rfl, ?_⟩) (by assumption) ?_
    · intro w hSw
      (try dsimp only at hSw)
      go_simp
      all_goals (first | assumption | rfl | (simp; done) | (simp only [*]; done) | omega | (simp; omega))
    try simp only [Act.put, List.setIfInBounds_toArray, List.set_cons_zero, List.set_cons_succ]
    refine wpAnyH_done (by kernel_rfl) ?_ _
    go_wp2_with fail
    go_ret
    exact ⟨rfl, HSx.out.1⟩
  · have te : ((nx : Int) == (ny : Int)) = false := by rw [beq_eq_false_iff_ne]; omega
    have HOWN := Lib.hid (assign_own HTI.out HX6.out HY6.out HC40.out hxy HTM.out)
    clear hxy
    go_wp2_with fail
    go_at_call 42
    have hbox := below_box W22 (.cells #[.int .i64 nx] 3)
    refine (extend_any _ gz gr M b (some ⟨W22.heap.size, 0, none⟩) 1 1 [(nx : Int)] ((S22.out.up hbox).2 (gz, some M) (by simp)) (HVgr.out.up hbox) rfl (by omega) (nums_new W22 nx _) HTI.out.toTight HEX.out).mono ?_
    rintro e We ⟨ge2, rfl, hB⟩
    have hBe := hbox.trans (hB.mono hbox.size)
    have HOP2 := Lib.hid (HOP.out.up hBe)
    have HVgr2 := Lib.hid (HVgr.out.up hBe)
    have S23 := Lib.hid (show St w We [(gt, some (assignT M nx ny C)), (gf, some (forgetT M L)), (gn, some N), (gz, some M), (g0, some topT)] from S22.out.up hBe)
    clear hbox hB hBe te v3 v4 HOP HVgr S22
    have HOP := HOP2
    have HVgr := HVgr2
    clear HOP2 HVgr2
    go_upto_region 29 with (fail)
    obtain ⟨b1, b2⟩ := HTR.out nx HX6.out
    obtain ⟨b3, b4⟩ := HTR.out ny HY6.out
    obtain ⟨cc1, cc2⟩ := HC40.out
    have hx0 : (0 : Int) ≤ nx := by omega
    have hx6 : (nx : Int) < 60 := by have := HX6.out; omega
    have hx6n := HX6.out
    have hy0 : (0 : Int) ≤ ny := by omega
    have hy6 : (ny : Int) < 60 := by have := HY6.out; omega
    have hy6n := HY6.out
    have HOs := Lib.hid (HOP.out.up (below_drewN' (Below.refl _ _) 1))
    have HVs := Lib.hid (HVgr.out.up (below_drewN' (Below.refl _ _) 1))
    have HSs := Lib.hid (S23.out.up (below_drewN' (Below.refl _ _) 1))
    have hw : IntKind.i64.wrap (b ny + C) = b ny + C := IntWalk.i64_in _ (by omega)
    have he : (b nx == b ny + C) = true := by rw [HOWN.out]; exact beq_self_eq_true _
    refine wp_region_held_drew (S := (fun W => W.cell? ⟨bx, 3, none⟩ = some (.int .i64 nx) ∧ W.cell? ⟨bx, 4, none⟩ = some (.int .i64 ny) ∧ W.cell? ⟨bx, 5, none⟩ = some (.int .i64 C) ∧ W.cell? ⟨gr, nx, none⟩ = some (.int .i64 (b nx)) ∧ W.cell? ⟨gr, ny, none⟩ = some (.int .i64 (b ny)))) (by kernel_rfl) ⟨HOs.out.x, HOs.out.y, HOs.out.c, HVs.out.at_ nx HX6.out, HVs.out.at_ ny HY6.out⟩ (fun hHeld => ?_)
    refine wpAnyH_take (i := 0) (oi := { dst := some 196, op := Op.move (Operand.tmp 21), type := 25, pos := "law.go:588", after := #[], guard := none }) (v := .pointer (some ⟨gt, 0, none⟩)) rfl (by kernel_rfl) (by kernel_rfl) (by kernel_rfl) (fun _ _ _ h => h) (Or.inl ⟨by rfl, ?_⟩) (by assumption) ?_
    · intro w hSw
      (try dsimp only at hSw)
      go_simp
      all_goals (first | assumption | rfl | (simp; done) | (simp only [*]; done) | omega | (simp; omega))
    try simp only [Act.put, List.setIfInBounds_toArray, List.set_cons_zero, List.set_cons_succ]
    refine wpAnyH_take (i := 1) (oi := { dst := some 197, op := Op.move (Operand.tmp 18), type := 22, pos := "law.go:588", after := #[], guard := none }) (v := vecV gr) rfl (by kernel_rfl) (by kernel_rfl) (by kernel_rfl) (fun _ _ _ h => h) (Or.inl ⟨by rfl, ?_⟩) (by assumption) ?_
    · intro w hSw
      (try dsimp only at hSw)
      go_simp
      all_goals (first | assumption | rfl | (simp; done) | (simp only [*]; done) | omega | (simp; omega))
    try simp only [Act.put, List.setIfInBounds_toArray, List.set_cons_zero, List.set_cons_succ]
    refine wpAnyH_ready (rs := [2]) (by kernel_rfl) (by simp) ?_
    refine AllReadyH.cons (o := { dst := some 198, op := Op.call { callee := Callee.value (Operand.func 13), args := #[Operand.tmp 196, Operand.tmp 197], argTypes := #[25, 22] }, type := 4, pos := "law.go:588", after := #[{ on := 0, ground := Ground.data }, { on := 1, ground := Ground.data }], guard := none }) rfl (fun K hK => ?_) ?_
    rotate_left
    · exact AllReadyH.nil
    go_simp
    go_at_call 13
    refine (meets_yes _ gt (assignT M nx ny C) (HSs.out.2 (gt, some (assignT M nx ny C)) (by simp)) gr b HVs.out HTJ.out HTM.out).mono ?_
    rintro e Wt ⟨rfl, hB⟩
    have HOt := Lib.hid (HOs.out.up hB)
    have HVt := Lib.hid (HVs.out.up hB)
    have HSt := Lib.hid (HSs.out.up hB)
    clear hB
    refine hK.out _ _ ?_ (fun hHeld => ?_)
    · (try dsimp only)
      exact ⟨HOt.out.x, HOt.out.y, HOt.out.c, HVt.out.at_ nx HX6.out, HVt.out.at_ ny HY6.out⟩
    clear hK K
    try simp only [Act.put, List.setIfInBounds_toArray, List.set_cons_zero, List.set_cons_succ]
    refine wpAnyH_take (i := 3) (oi := { dst := some 199, op := Op.move (Operand.tmp 198), type := 4, pos := "law.go:588", after := #[{ on := 2, ground := Ground.data }, { on := 2, ground := Ground.chain }], guard := none }) (v := .bool true) rfl (by kernel_rfl) (by kernel_rfl) (by kernel_rfl) (fun _ _ _ h => h) (Or.inl ⟨by rfl, ?_⟩) (by assumption) ?_
    · intro w hSw
      (try dsimp only at hSw)
      go_simp
      all_goals (first | assumption | rfl | (simp; done) | (simp only [*]; done) | omega | (simp; omega))
    try simp only [Act.put, List.setIfInBounds_toArray, List.set_cons_zero, List.set_cons_succ]
    refine wpAnyH_take (i := 4) (oi := { dst := some 200, op := Op.move (Operand.tmp 18), type := 22, pos := "law.go:588", after := #[{ on := 3, ground := Ground.guard }], guard := some (3, true) }) (v := vecV gr) rfl (by kernel_rfl) (by kernel_rfl) (by kernel_rfl) (fun _ _ _ h => h) (Or.inl ⟨by rfl, ?_⟩) (by assumption) ?_
    · intro w hSw
      (try dsimp only at hSw)
      go_simp
      all_goals (first | assumption | rfl | (simp; done) | (simp only [*]; done) | omega | (simp; omega))
    try simp only [Act.put, List.setIfInBounds_toArray, List.set_cons_zero, List.set_cons_succ]
    refine wpAnyH_take (i := 5) (oi := { dst := some 201, op := Op.fieldAddr 57 (Operand.tmp 7) 3, type := 0, pos := "law.go:588", after := #[{ on := 3, ground := Ground.guard }], guard := some (3, true) }) (v := .pointer (some ⟨bx, 3, none⟩)) rfl (by kernel_rfl) (by kernel_rfl) (by kernel_rfl) (fun _ _ _ h => h) (Or.inl ⟨by rfl, ?_⟩) (by assumption) ?_
    · intro w hSw
      (try dsimp only at hSw)
      go_simp
      all_goals (first | assumption | rfl | (simp; done) | (simp only [*]; done) | omega | (simp; omega))
    try simp only [Act.put, List.setIfInBounds_toArray, List.set_cons_zero, List.set_cons_succ]
    refine wpAnyH_take (i := 6) (oi := { dst := some 202, op := Op.load 3 (Operand.tmp 201), type := 3, pos := "law.go:588", after := #[{ on := 5, ground := Ground.data }, { on := 3, ground := Ground.guard }], guard := some (3, true) }) (v := .int .i64 nx) rfl (by kernel_rfl) (by kernel_rfl) (by kernel_rfl) (fun _ _ _ h => h) (Or.inl ⟨by rfl, ?_⟩) (by assumption) ?_
    · intro w hSw
      (try dsimp only at hSw)
      go_simp
      all_goals (first | assumption | rfl | (simp; done) | (simp only [*]; done) | omega | (simp; omega))
    try simp only [Act.put, List.setIfInBounds_toArray, List.set_cons_zero, List.set_cons_succ]
    refine wpAnyH_take (i := 7) (oi := { dst := some 203, op := Op.indexAddr 22 (Operand.tmp 200) (Operand.tmp 202), type := 0, pos := "law.go:588", after := #[{ on := 4, ground := Ground.data }, { on := 6, ground := Ground.data }, { on := 3, ground := Ground.guard }], guard := some (3, true) }) (v := .pointer (some ⟨gr, nx, none⟩)) rfl (by kernel_rfl) (by kernel_rfl) (by kernel_rfl) (fun _ _ _ h => h) (Or.inl ⟨by rfl, ?_⟩) (by assumption) ?_
    · intro w hSw
      (try dsimp only at hSw)
      go_simp
      all_goals (first | assumption | rfl | (simp; done) | (simp only [*]; done) | omega | (simp; omega))
    try simp only [Act.put, List.setIfInBounds_toArray, List.set_cons_zero, List.set_cons_succ]
    refine wpAnyH_take (i := 8) (oi := { dst := some 204, op := Op.load 3 (Operand.tmp 203), type := 3, pos := "law.go:588", after := #[{ on := 7, ground := Ground.data }, { on := 3, ground := Ground.guard }], guard := some (3, true) }) (v := .int .i64 (b nx)) rfl (by kernel_rfl) (by kernel_rfl) (by kernel_rfl) (fun _ _ _ h => h) (Or.inl ⟨by rfl, ?_⟩) (by assumption) ?_
    · intro w hSw
      (try dsimp only at hSw)
      go_simp
      all_goals (first | assumption | rfl | (simp; done) | (simp only [*]; done) | omega | (simp; omega))
    try simp only [Act.put, List.setIfInBounds_toArray, List.set_cons_zero, List.set_cons_succ]
    refine wpAnyH_take (i := 9) (oi := { dst := some 205, op := Op.move (Operand.tmp 18), type := 22, pos := "law.go:588", after := #[{ on := 3, ground := Ground.guard }], guard := some (3, true) }) (v := vecV gr) rfl (by kernel_rfl) (by kernel_rfl) (by kernel_rfl) (fun _ _ _ h => h) (Or.inl ⟨by rfl, ?_⟩) (by assumption) ?_
    · intro w hSw
      (try dsimp only at hSw)
      go_simp
      all_goals (first | assumption | rfl | (simp; done) | (simp only [*]; done) | omega | (simp; omega))
    try simp only [Act.put, List.setIfInBounds_toArray, List.set_cons_zero, List.set_cons_succ]
    refine wpAnyH_take (i := 10) (oi := { dst := some 206, op := Op.fieldAddr 57 (Operand.tmp 7) 4, type := 0, pos := "law.go:588", after := #[{ on := 3, ground := Ground.guard }], guard := some (3, true) }) (v := .pointer (some ⟨bx, 4, none⟩)) rfl (by kernel_rfl) (by kernel_rfl) (by kernel_rfl) (fun _ _ _ h => h) (Or.inl ⟨by rfl, ?_⟩) (by assumption) ?_
    · intro w hSw
      (try dsimp only at hSw)
      go_simp
      all_goals (first | assumption | rfl | (simp; done) | (simp only [*]; done) | omega | (simp; omega))
    try simp only [Act.put, List.setIfInBounds_toArray, List.set_cons_zero, List.set_cons_succ]
    refine wpAnyH_take (i := 11) (oi := { dst := some 207, op := Op.load 3 (Operand.tmp 206), type := 3, pos := "law.go:588", after := #[{ on := 10, ground := Ground.data }, { on := 3, ground := Ground.guard }], guard := some (3, true) }) (v := .int .i64 ny) rfl (by kernel_rfl) (by kernel_rfl) (by kernel_rfl) (fun _ _ _ h => h) (Or.inl ⟨by rfl, ?_⟩) (by assumption) ?_
    · intro w hSw
      (try dsimp only at hSw)
      go_simp
      all_goals (first | assumption | rfl | (simp; done) | (simp only [*]; done) | omega | (simp; omega))
    try simp only [Act.put, List.setIfInBounds_toArray, List.set_cons_zero, List.set_cons_succ]
    refine wpAnyH_take (i := 12) (oi := { dst := some 208, op := Op.indexAddr 22 (Operand.tmp 205) (Operand.tmp 207), type := 0, pos := "law.go:588", after := #[{ on := 9, ground := Ground.data }, { on := 11, ground := Ground.data }, { on := 3, ground := Ground.guard }], guard := some (3, true) }) (v := .pointer (some ⟨gr, ny, none⟩)) rfl (by kernel_rfl) (by kernel_rfl) (by kernel_rfl) (fun _ _ _ h => h) (Or.inl ⟨by rfl, ?_⟩) (by assumption) ?_
    · intro w hSw
      (try dsimp only at hSw)
      go_simp
      all_goals (first | assumption | rfl | (simp; done) | (simp only [*]; done) | omega | (simp; omega))
    try simp only [Act.put, List.setIfInBounds_toArray, List.set_cons_zero, List.set_cons_succ]
    refine wpAnyH_take (i := 13) (oi := { dst := some 209, op := Op.load 3 (Operand.tmp 208), type := 3, pos := "law.go:588", after := #[{ on := 12, ground := Ground.data }, { on := 3, ground := Ground.guard }], guard := some (3, true) }) (v := .int .i64 (b ny)) rfl (by kernel_rfl) (by kernel_rfl) (by kernel_rfl) (fun _ _ _ h => h) (Or.inl ⟨by rfl, ?_⟩) (by assumption) ?_
    · intro w hSw
      (try dsimp only at hSw)
      go_simp
      all_goals (first | assumption | rfl | (simp; done) | (simp only [*]; done) | omega | (simp; omega))
    try simp only [Act.put, List.setIfInBounds_toArray, List.set_cons_zero, List.set_cons_succ]
    refine wpAnyH_take (i := 14) (oi := { dst := some 210, op := Op.fieldAddr 57 (Operand.tmp 7) 5, type := 0, pos := "law.go:588", after := #[{ on := 3, ground := Ground.guard }], guard := some (3, true) }) (v := .pointer (some ⟨bx, 5, none⟩)) rfl (by kernel_rfl) (by kernel_rfl) (by kernel_rfl) (fun _ _ _ h => h) (Or.inl ⟨by rfl, ?_⟩) (by assumption) ?_
    · intro w hSw
      (try dsimp only at hSw)
      go_simp
      all_goals (first | assumption | rfl | (simp; done) | (simp only [*]; done) | omega | (simp; omega))
    try simp only [Act.put, List.setIfInBounds_toArray, List.set_cons_zero, List.set_cons_succ]
    refine wpAnyH_take (i := 15) (oi := { dst := some 211, op := Op.load 3 (Operand.tmp 210), type := 3, pos := "law.go:588", after := #[{ on := 14, ground := Ground.data }, { on := 3, ground := Ground.guard }], guard := some (3, true) }) (v := .int .i64 C) rfl (by kernel_rfl) (by kernel_rfl) (by kernel_rfl) (fun _ _ _ h => h) (Or.inl ⟨by rfl, ?_⟩) (by assumption) ?_
    · intro w hSw
      (try dsimp only at hSw)
      go_simp
      all_goals (first | assumption | rfl | (simp; done) | (simp only [*]; done) | omega | (simp; omega))
    try simp only [Act.put, List.setIfInBounds_toArray, List.set_cons_zero, List.set_cons_succ]
    refine wpAnyH_take (i := 16) (oi := { dst := some 212, op := Op.binOp BinOp.add 3 (Operand.tmp 209) (Operand.tmp 211) 3, type := 3, pos := "law.go:588", after := #[{ on := 13, ground := Ground.data }, { on := 15, ground := Ground.data }, { on := 3, ground := Ground.guard }], guard := some (3, true) }) (v := .int .i64 (b ny + C)) rfl (by kernel_rfl) (by kernel_rfl) (by kernel_rfl) (fun _ _ _ h => h) (Or.inl ⟨by rfl, ?_⟩) (by assumption) ?_
    · intro w hSw
      (try dsimp only at hSw)
      go_simp
      all_goals (first | assumption | rfl | (simp; done) | (simp only [*]; done) | omega | (simp; omega))
    try simp only [Act.put, List.setIfInBounds_toArray, List.set_cons_zero, List.set_cons_succ]
    refine wpAnyH_take (i := 17) (oi := { dst := some 213, op := Op.binOp BinOp.eql 3 (Operand.tmp 204) (Operand.tmp 212) 3, type := 4, pos := "law.go:588", after := #[{ on := 8, ground := Ground.data }, { on := 16, ground := Ground.data }, { on := 3, ground := Ground.guard }], guard := some (3, true) }) (v := .bool true) rfl (by kernel_rfl) (by kernel_rfl) (by kernel_rfl) (fun _ _ _ h => h) (Or.inl ⟨by rfl, ?_⟩) (by assumption) ?_
    · intro w hSw
      (try dsimp only at hSw)
      go_simp
      all_goals (first | assumption | rfl | (simp; done) | (simp only [*]; done) | omega | (simp; omega))
    try simp only [Act.put, List.setIfInBounds_toArray, List.set_cons_zero, List.set_cons_succ]
    clear hw he
    refine wpAnyH_take (i := 18) (oi := { dst := some 214, op := Op.pick (Operand.tmp 199) (Operand.tmp 213) (Operand.const (Value.bool false)), type := 4, pos := "law.go:588", after := #[{ on := 3, ground := Ground.data }, { on := 17, ground := Ground.data }], guard := none }) (v := .bool true) rfl (by kernel_rfl) (by kernel_rfl) (by kernel_rfl) (fun _ _ _ h => h) (Or.inl ⟨by rfl, ?_⟩) (by assumption) ?_
    · intro w hSw
      (try dsimp only at hSw)
      go_simp
      all_goals (first | assumption | rfl | (simp; done) | (simp only [*]; done) | omega | (simp; omega))
    try simp only [Act.put, List.setIfInBounds_toArray, List.set_cons_zero, List.set_cons_succ]
    refine wpAnyH_take (i := 19) (oi := { dst := some 215, op := Op.move (Operand.tmp 214), type := 4, pos := "law.go:588", after := #[{ on := 18, ground := Ground.data }, { on := 3, ground := Ground.chain }], guard := none }) (v := .bool true) rfl (by kernel_rfl) (by kernel_rfl) (by kernel_rfl) (fun _ _ _ h => h) (Or.inl ⟨by rfl, ?_⟩) (by assumption) ?_
    · intro w hSw
      (try dsimp only at hSw)
      go_simp
      all_goals (first | assumption | rfl | (simp; done) | (simp only [*]; done) | omega | (simp; omega))
    try simp only [Act.put, List.setIfInBounds_toArray, List.set_cons_zero, List.set_cons_succ]
    refine wpAnyH_take (i := 20) (oi := { dst := some 216, op := Op.move (Operand.tmp 20), type := 4, pos := "law.go:588", after := #[{ on := 19, ground := Ground.guard }], guard := some (19, true) }) (v := .bool true) rfl (by kernel_rfl) (by kernel_rfl) (by kernel_rfl) (fun _ _ _ h => h) (Or.inl ⟨by rfl, ?_⟩) (by assumption) ?_
    · intro w hSw
      (try dsimp only at hSw)
      go_simp
      all_goals (first | assumption | rfl | (simp; done) | (simp only [*]; done) | omega | (simp; omega))
    try simp only [Act.put, List.setIfInBounds_toArray, List.set_cons_zero, List.set_cons_succ]
    refine wpAnyH_take (i := 21) (oi := { dst := some 217, op := Op.pick (Operand.tmp 215) (Operand.tmp 216) (Operand.const (Value.bool false)), type := 4, pos := "law.go:588", after := #[{ on := 19, ground := Ground.data }, { on := 20, ground := Ground.data }], guard := none }) (v := .bool true) rfl (by kernel_rfl) (by kernel_rfl) (by kernel_rfl) (fun _ _ _ h => h) (Or.inl ⟨by rfl, ?_⟩) (by assumption) ?_
    · intro w hSw
      (try dsimp only at hSw)
      go_simp
      all_goals (first | assumption | rfl | (simp; done) | (simp only [*]; done) | omega | (simp; omega))
    try simp only [Act.put, List.setIfInBounds_toArray, List.set_cons_zero, List.set_cons_succ]
    refine wpAnyH_take (i := 22) (oi := { dst := some 218, op := Op.move (Operand.tmp 217), type := 4, pos := "law.go:588", after := #[{ on := 21, ground := Ground.data }, { on := 19, ground := Ground.chain }], guard := none }) (v := .bool true) rfl (by kernel_rfl) (by kernel_rfl) (by kernel_rfl) (fun _ _ _ h => h) (Or.inl ⟨by rfl, ?_⟩) (by assumption) ?_
    · intro w hSw
      (try dsimp only at hSw)
      go_simp
      all_goals (first | assumption | rfl | (simp; done) | (simp only [*]; done) | omega | (simp; omega))
    try simp only [Act.put, List.setIfInBounds_toArray, List.set_cons_zero, List.set_cons_succ]
    refine wpAnyH_ready (rs := [23]) (by kernel_rfl) (by simp) ?_
    refine AllReadyH.cons (o := { dst := some 219, op := Op.call { callee := Callee.value (Operand.func 14), args := #[], argTypes := #[] }, type := 4, pos := "law.go:588", after := #[{ on := 22, ground := Ground.chain }, { on := 22, ground := Ground.guard }], guard := some (22, true) }) rfl (fun K hK => ?_) ?_
    rotate_left
    · exact AllReadyH.nil
    go_simp
    go_at_call 14
    refine (awake_any _).mono ?_
    rintro e Wx ⟨rfl, hB⟩
    have HOx := Lib.hid (HOt.out.up hB)
    have HVx := Lib.hid (HVt.out.up hB)
    have HSx := Lib.hid (HSt.out.up hB)
    clear hB
    refine hK.out _ _ ?_ (fun hHeld => ?_)
    · (try dsimp only)
      exact ⟨HOx.out.x, HOx.out.y, HOx.out.c, HVx.out.at_ nx HX6.out, HVx.out.at_ ny HY6.out⟩
    clear hK K
    try simp only [Act.put, List.setIfInBounds_toArray, List.set_cons_zero, List.set_cons_succ]
    refine wpAnyH_take (i := 24) (oi := { dst := some 220, op := Op.pick (Operand.tmp 218) (Operand.tmp 219) (Operand.const (Value.bool false)), type := 4, pos := "law.go:588", after := #[{ on := 22, ground := Ground.data }, { on := 23, ground := Ground.data }], guard := none }) (v := .bool true) rfl (by kernel_rfl) (by kernel_rfl) (by kernel_rfl) (fun _ _ _ h => h) (Or.inl ⟨by rfl, ?_⟩) (by assumption) ?_
    · intro w hSw
      (try dsimp only at hSw)
      go_simp
      all_goals (first | assumption | rfl | (simp; done) | (simp only [*]; done) | omega | (simp; omega))
    try simp only [Act.put, List.setIfInBounds_toArray, List.set_cons_zero, List.set_cons_succ]
    refine wpAnyH_take (i := 25) (oi := { dst := some 10, op := Op.assign (Operand.tmp 220), type := 4, pos := "law.go:588", after := #[{ on := 24, ground := Ground.data }, { on := 23, ground := Ground.chain }, { on := 0, ground := Ground.phase }, { on := 1, ground := Ground.phase }, { on := 2, ground := Ground.phase }, { on := 3, ground := Ground.phase }, { on := 4, ground := Ground.phase }, { on := 5, ground := Ground.phase }, { on := 6, ground := Ground.phase }, { on := 7, ground := Ground.phase }, { on := 8, ground := Ground.phase }, { on := 9, ground := Ground.phase }, { on := 10, ground := Ground.phase }, { on := 11, ground := Ground.phase }, { on := 12, ground := Ground.phase }, { on := 13, ground := Ground.phase }, { on := 14, ground := Ground.phase }, { on := 15, ground := Ground.phase }, { on := 16, ground := Ground.phase }, { on := 17, ground := Ground.phase }, { on := 18, ground := Ground.phase }, { on := 19, ground := Ground.phase }, { on := 20, ground := Ground.phase }, { on := 21, ground := Ground.phase }, { on := 22, ground := Ground.phase }, { on := 23, ground := Ground.phase }, { on := 24, ground := Ground.phase }], guard := none }) (v := .bool true) rfl (by kernel_rfl) (by kernel_rfl) (by kernel_rfl) (fun _ _ _ h => h) (Or.inl ⟨by rfl, ?_⟩) (by assumption) ?_
    · intro w hSw
      (try dsimp only at hSw)
      go_simp
      all_goals (first | assumption | rfl | (simp; done) | (simp only [*]; done) | omega | (simp; omega))
    try simp only [Act.put, List.setIfInBounds_toArray, List.set_cons_zero, List.set_cons_succ]
    refine wpAnyH_done (by kernel_rfl) ?_ _
    go_wp2_with fail
    go_ret
    exact ⟨rfl, HSx.out.1⟩
theorem zoneLoses_walk (w : World) (A0 : Option Addr) (n0 c0 : Nat) (L0 : List Con) (i0 : ConIn w A0 n0 c0 L0) (A1 : Option Addr) (n1 c1 : Nat) (L1 : List Con) (i1 : ConIn w A1 n1 c1 L1) (k0 k1 k2 X Y C : Int) (hX : I64 X) (hY : I64 Y) (hC : I64 C) (A : Option Addr) (n c : Nat) (L : List Int) (i : NumIn w A n c L) (A7 A8 A9 : Option Addr) (n7 c7 n8 c8 n9 c9 : Nat) (x3 : Int) (b3 : I64 x3) (x4 : Int) (b4 : I64 x4) :
    Calls Try.prog 6 #[.slice A0 n0 c0, .slice A1 n1 c1, .agg #[.int .i64 k0, .int .i64 k1, .int .i64 k2, .int .i64 X, .int .i64 Y, .int .i64 C, .slice A n c, .slice A7 n7 c7, .slice A8 n8 c8, .slice A9 n9 c9], .int .i64 x3, .int .i64 x4] w (True_ w) := by
  cases h : withZ (some topT) (smallL L0) with
  | none => exact zoneLoses_void w A0 n0 c0 L0 i0 A1 n1 c1 L1 i1 k0 k1 k2 X Y C hX hY hC A n c L i A7 A8 A9 n7 c7 n8 c8 n9 c9 x3 b3 x4 b4 h
  | some M =>
    obtain ⟨p, hp, hp6⟩ := lw_mod x3
    obtain ⟨q, hq, hq6⟩ := lw_mod x4
    cases hn : withZ (some M) (smallL L1) with
    | none => exact zoneLoses_none w A0 n0 c0 L0 i0 A1 n1 c1 L1 i1 k0 k1 k2 X Y C hX hY hC A n c L i A7 A8 A9 n7 c7 n8 c8 n9 c9 x3 b3 x4 b4 M h p q hp hp6 hq hq6 hn
    | some N => exact zoneLoses_some w A0 n0 c0 L0 i0 A1 n1 c1 L1 i1 k0 k1 k2 X Y C hX hY hC A n c L i A7 A8 A9 n7 c7 n8 c8 n9 c9 x3 b3 x4 b4 M h p q hp hp6 hq hq6 N hn
end Go.Proofs.Ytockoolcdhgopaa
