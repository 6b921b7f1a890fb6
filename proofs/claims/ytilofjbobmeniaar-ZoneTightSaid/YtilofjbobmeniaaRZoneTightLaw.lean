/- ZoneTight: the walk of the law. -/
import Derived.Test.YtilofjbobmeniaaRZoneM6
namespace Go.Proofs.YtilofjbobmeniaaR
open Go.ChangeShapes Go.WideShapes Go.ChangeAt Go.RowKit
open Zon
set_option linter.unusedVariables false
set_option maxRecDepth 100000
theorem small_conIn {w W : World} {A0 As : Option Addr} {n0 c0 ns cs : Nat} {L0 : List Con} (i : ConIn w A0 n0 c0 L0) (hL : (smallL L0).length = ns) (hc : ns ≤ cs) (hA : ConsAt W As (smallL L0)) : ConIn W As ns cs (smallL L0) :=
  ⟨hL, by have : (smallL L0).length ≤ L0.length := List.length_filter_le _ _; have := i.len; have := i.reach; omega, fun x hx => i.rng x (List.mem_filter.mp hx).1, hA, hc⟩
theorem nums_below {w W : World} {A : Option Addr} {L : List Int} (h : NumsAt w A L) (hb : Below w.heap.size w W) : NumsAt W A L := fun hp => by
  obtain ⟨b, off, e, hl, hc⟩ := h hp
  exact ⟨b, off, e, Nat.lt_of_lt_of_le hl hb.size, fun i x hx => (hb.cell (p := ⟨b, off + i, none⟩) hl).trans (hc i x hx)⟩
theorem mod60 (x : Int) : ∃ p : Nat, x % 60 = p ∧ p < 60 := ⟨(x % 60).toNat, by omega, by omega⟩
set_option maxHeartbeats 4000000 in
theorem zoneTight_void (w : World) (A0 : Option Addr) (n0 c0 : Nat) (L0 : List Con) (i0 : ConIn w A0 n0 c0 L0) (x1 : Int) (b1 : I64 x1) (x2 : Int) (b2 : I64 x2) (A3 : Option Addr) (n3 c3 : Nat) (L3 : List Int) (i3 : NumIn w A3 n3 c3 L3) (hv : withZ (some topT) (smallL L0) = none) :
    Calls Try.prog 7 #[.slice A0 n0 c0, .int .i64 x1, .int .i64 x2, .slice A3 n3 c3] w (True_ w) := by
  have I0 := Lib.hid i0
  have I3 := Lib.hid i3
  have B1 := Lib.hid b1
  have B2 := Lib.hid b2
  have HLS := Lib.hid (show (smallL L0).length ≤ 7000000000000 by have : (smallL L0).length ≤ L0.length := List.length_filter_le _ _; have := i0.len; have := i0.reach; omega)
  have HWS := Lib.hid (wrongL_small L0)
  clear i0 i3 b1 b2
  have HML := Lib.hid (met_less hv (fullV L3))
  have HV := Lib.hid hv
  clear hv
  go_enter Try.func7, Try.ntmps7
  have S0 := Lib.hid (St.start w)
  go_wp2_with fail
  go_at_call 35
  refine (small_any _ A0 n0 c0 L0 I0.out).mono ?_
  rintro e W1 ⟨As, ns, cs, rfl, hLs, hcs, hAs, hB⟩
  have HAs := Lib.hid hAs
  have HNs := Lib.hid hLs
  have HCs := Lib.hid hcs
  have S1 := Lib.hid (show St w W1 [] from (S0.out.up hB))
  clear hB S0 hAs hLs hcs
  go_wp2_with fail
  go_at_call 14
  refine (New_law _).mono ?_
  rintro e W2 ⟨g0, rfl, hg, hz, hB⟩
  have S2 := Lib.hid (show St w W2 [(g0, some topT)] from (S1.out.up hB).add hz)
  have THAs := Lib.hid (HAs.out.below hB)
  clear HAs
  have HAs := THAs
  clear THAs
  clear hB S1 hz hg
  go_wp2_with fail
  go_at_call 20
  refine (cons_law _ As ns cs (smallL L0) HNs.out (by have := HNs.out; have := HLS.out; omega) HAs.out).mono ?_
  rintro e W3 ⟨Al2, nl2, cl2, rfl, hL2, hc2, hA2, hB⟩
  have HA2 := Lib.hid hA2
  have HL2 := Lib.hid hL2
  have S3 := Lib.hid (show St w W3 [(g0, some topT)] from (S2.out.up hB))
  have THAs := Lib.hid (HAs.out.below hB)
  clear HAs
  have HAs := THAs
  clear THAs
  clear hB S2 hA2 hL2 hc2
  go_wp2_with fail
  go_at_call 17
  refine (With_law _ g0 (some topT) Al2 nl2 cl2 (smallL L0) (S3.out.2 (g0, some topT) (by simp)) HL2.out (by have := HL2.out; have := HLS.out; omega) HA2.out HWS.out).mono ?_
  rintro e W4 ⟨gz, rfl, hz, hB⟩
  rw [HV.out] at hz
  have S4 := Lib.hid (show St w W4 [(gz, none), (g0, some topT)] from (S3.out.up hB).add hz)
  have THAs := Lib.hid (HAs.out.below hB)
  clear HAs
  have HAs := THAs
  clear THAs
  clear hB S3 hz HA2 HL2
  go_wp2_with fail
  go_at_call 18
  refine (Empty_any _ gz none (S4.out.2 (gz, none) (by simp))).mono ?_
  rintro e W5 ⟨rfl, rfl⟩
  rw [show voidB none = true from rfl]
  have S5 := S4
  clear S4
  go_wp2_with fail
  go_at_call 19
  refine (full_any _ A3 n3 c3 L3 ⟨I3.out.len, I3.out.reach, I3.out.rng, nums_below I3.out.at_ S5.out.1, I3.out.cap⟩).mono ?_
  rintro e W6 ⟨ga, rfl, hg, hv, hB⟩
  have HVa := Lib.hid hv
  have S6 := Lib.hid (show St w W6 [(gz, none), (g0, some topT)] from (S5.out.up hB))
  have THAs := Lib.hid (HAs.out.below hB)
  clear HAs
  have HAs := THAs
  clear THAs
  clear hB S5 hg hv
  go_wp2_with fail
  go_at_call 21
  refine (met_any _ As ns cs (smallL L0) (small_conIn I0.out HNs.out HCs.out HAs.out) ga (fullV L3) HVa.out (fun q _ => fullV_i64 I3.out.rng q)).mono ?_
  rintro e W7 ⟨Am, nm, cm, rfl, hLm, -, -, hB⟩
  have HNm := Lib.hid hLm
  have S7 := Lib.hid (show St w W7 [(gz, none), (g0, some topT)] from (S6.out.up hB))
  have THAs := Lib.hid (HAs.out.below hB)
  clear HAs
  have HAs := THAs
  clear THAs
  have THVa := Lib.hid (HVa.out.up hB)
  clear HVa
  have HVa := THVa
  clear THVa
  clear hB S6 hLm
  have hlt : nm < ns := by have := HML.out; have := HNm.out; have := HNs.out; omega
  have t1 : decide ((nm : Int) < ns) = true := decide_eq_true (by omega)
  have t2 : decide (nm < ns) = true := decide_eq_true hlt
  go_wp2_with fail
  go_at_call 13
  refine (awake_any _).mono ?_
  rintro e W8 ⟨rfl, hB⟩
  have S8 := Lib.hid (show St w W8 [(gz, none), (g0, some topT)] from (S7.out.up hB))
  have THAs := Lib.hid (HAs.out.below hB)
  clear HAs
  have HAs := THAs
  clear THAs
  have THVa := Lib.hid (HVa.out.up hB)
  clear HVa
  have HVa := THVa
  clear THVa
  clear hB S7
  go_wp2_with fail
  go_ret
  exact ⟨rfl, S8.out.1⟩
set_option maxHeartbeats 4000000 in
theorem zoneTight_at (w : World) (A0 : Option Addr) (n0 c0 : Nat) (L0 : List Con) (i0 : ConIn w A0 n0 c0 L0) (x1 : Int) (b1 : I64 x1) (x2 : Int) (b2 : I64 x2) (A3 : Option Addr) (n3 c3 : Nat) (L3 : List Int) (i3 : NumIn w A3 n3 c3 L3) (M : Tab) (hv : withZ (some topT) (smallL L0) = some M) (p q : Nat) (hp : x1 % 60 = p) (hp6 : p < 60) (hq : x2 % 60 = q) (hq6 : q < 60) (hm : M p q ≠ 3458764513820540928) :
    Calls Try.prog 7 #[.slice A0 n0 c0, .int .i64 x1, .int .i64 x2, .slice A3 n3 c3] w (True_ w) := by
  have I0 := Lib.hid i0
  have I3 := Lib.hid i3
  have B1 := Lib.hid b1
  have B2 := Lib.hid b2
  have HLS := Lib.hid (show (smallL L0).length ≤ 7000000000000 by have : (smallL L0).length ≤ L0.length := List.length_filter_le _ _; have := i0.len; have := i0.reach; omega)
  have HWS := Lib.hid (wrongL_small L0)
  clear i0 i3 b1 b2
  have HCL := Lib.hid (small_cl hv)
  have HTI := Lib.hid (Cl.tight HCL.out)
  have HMA := Lib.hid (Cl.met HCL.out (HTI.out.meets q))
  have HV := Lib.hid hv
  have HP := Lib.hid hp
  have HQ := Lib.hid hq
  have HM := Lib.hid hm
  have hp1 : (p : Int) < 60 := by omega
  have hq1 : (q : Int) < 60 := by omega
  have hp0 : (0 : Int) ≤ p := by omega
  have hq0 : (0 : Int) ≤ q := by omega
  clear hv hp hq hm
  go_enter Try.func7, Try.ntmps7
  have S0 := Lib.hid (St.start w)
  go_wp2_with fail
  go_at_call 35
  refine (small_any _ A0 n0 c0 L0 I0.out).mono ?_
  rintro e W1 ⟨As, ns, cs, rfl, hLs, hcs, hAs, hB⟩
  have HAs := Lib.hid hAs
  have HNs := Lib.hid hLs
  have HCs := Lib.hid hcs
  have S1 := Lib.hid (show St w W1 [] from (S0.out.up hB))
  clear hB S0 hAs hLs hcs
  go_wp2_with fail
  go_at_call 14
  refine (New_law _).mono ?_
  rintro e W2 ⟨g0, rfl, hg, hz, hB⟩
  have S2 := Lib.hid (show St w W2 [(g0, some topT)] from (S1.out.up hB).add hz)
  have THAs := Lib.hid (HAs.out.below hB)
  clear HAs
  have HAs := THAs
  clear THAs
  clear hB S1 hz hg
  go_wp2_with fail
  go_at_call 20
  refine (cons_law _ As ns cs (smallL L0) HNs.out (by have := HNs.out; have := HLS.out; omega) HAs.out).mono ?_
  rintro e W3 ⟨Al2, nl2, cl2, rfl, hL2, hc2, hA2, hB⟩
  have HA2 := Lib.hid hA2
  have HL2 := Lib.hid hL2
  have S3 := Lib.hid (show St w W3 [(g0, some topT)] from (S2.out.up hB))
  have THAs := Lib.hid (HAs.out.below hB)
  clear HAs
  have HAs := THAs
  clear THAs
  clear hB S2 hA2 hL2 hc2
  go_wp2_with fail
  go_at_call 17
  refine (With_law _ g0 (some topT) Al2 nl2 cl2 (smallL L0) (S3.out.2 (g0, some topT) (by simp)) HL2.out (by have := HL2.out; have := HLS.out; omega) HA2.out HWS.out).mono ?_
  rintro e W4 ⟨gz, rfl, hz, hB⟩
  rw [HV.out] at hz
  have S4 := Lib.hid (show St w W4 [(gz, some M), (g0, some topT)] from (S3.out.up hB).add hz)
  have THAs := Lib.hid (HAs.out.below hB)
  clear HAs
  have HAs := THAs
  clear THAs
  clear hB S3 hz HA2 HL2
  go_wp2_with fail
  go_at_call 18
  refine (Empty_any _ gz (some M) (S4.out.2 (gz, some M) (by simp))).mono ?_
  rintro e W5 ⟨rfl, rfl⟩
  rw [show voidB (some M) = false from rfl]
  have S5 := S4
  clear S4
  go_wp2_with fail
  go_at_call 37
  refine (place_any _ 60 _ B1.out (by omega) (by omega)).mono ?_
  rintro e w' ⟨rfl, rfl⟩
  rw [HP.out]
  go_wp2_with fail
  go_at_call 37
  refine (place_any _ 60 _ B2.out (by omega) (by omega)).mono ?_
  rintro e w' ⟨rfl, rfl⟩
  rw [HQ.out]
  go_wp2_with fail
  go_at_call 42
  refine (reach_any _ gz M _ q (S5.out.2 (gz, some M) (by simp)) hq6).mono ?_
  rintro e W6 ⟨ga, rfl, hg, hv, hB⟩
  have HVa := Lib.hid hv
  have S6 := Lib.hid (show St w W6 [(gz, some M), (g0, some topT)] from (S5.out.up hB))
  have THAs := Lib.hid (HAs.out.below hB)
  clear HAs
  have HAs := THAs
  clear THAs
  clear hB S5 hg hv
  go_wp2_with fail
  go_at_call 21
  refine (met_any _ As ns cs (smallL L0) (small_conIn I0.out HNs.out HCs.out HAs.out) ga (reachV M q) HVa.out (fun x hx => HTI.out.i64 x hx)).mono ?_
  rintro e W7 ⟨Am, nm, cm, rfl, hLm, -, -, hB⟩
  have HNm := Lib.hid hLm
  have S7 := Lib.hid (show St w W7 [(gz, some M), (g0, some topT)] from (S6.out.up hB))
  have THAs := Lib.hid (HAs.out.below hB)
  clear HAs
  have HAs := THAs
  clear THAs
  have THVa := Lib.hid (HVa.out.up hB)
  clear HVa
  have HVa := THVa
  clear THVa
  clear hB S6 hLm
  have hnm : nm = ns := by rw [← HNm.out, HMA.out, HNs.out]
  subst hnm
  have v0 := HVa.out.at_ 0 (by omega)
  rw [show reachV M q 0 = 0 by unfold reachV; omega] at v0
  go_wp2_with fail
  go_at_call 16
  refine (Bound_at _ gz p q M (S7.out.2 (gz, some M) (by simp)) hp6 hq6).mono ?_
  rintro e W8 ⟨rfl, hB⟩
  rw [show bv (bnd (M p q)) = .agg #[.bool true, .int .i64 (M p q)] by unfold bnd; rw [if_neg HM.out]; rfl]
  clear v0
  have S8 := Lib.hid (show St w W8 [(gz, some M), (g0, some topT)] from (S7.out.up hB))
  have THAs := Lib.hid (HAs.out.below hB)
  clear HAs
  have HAs := THAs
  clear THAs
  have THVa := Lib.hid (HVa.out.up hB)
  clear HVa
  have HVa := THVa
  clear THVa
  clear hB S7
  go_upto_region 15 with (fail)
  have SB := Lib.hid (S8.out.up (below_box W8 (.cells #[.bool true, .int .i64 (M p q)] 28)))
  have HVb := Lib.hid (HVa.out.up (below_box W8 (.cells #[.bool true, .int .i64 (M p q)] 28)))
  have hbb := Blk.new W8 28 #[.bool true, .int .i64 (M p q)]
  generalize W8.alloc (.cells #[.bool true, .int .i64 (M p q)] 28) = WB at *
  generalize W8.heap.size = gb at *
  refine wp_region_tail 13 (by kernel_rfl) (by kernel_rfl) fun W hW => ?_
  simp only [List.take_succ_cons, List.take_zero, List.drop_succ_cons, List.drop_zero]
  have v1 : W.cell? ⟨ga, p, none⟩ = some (.int .i64 (reachV M q p)) := by rw [hW]; exact HVb.out.at_ p hp6
  have v2 : W.cell? ⟨ga, q, none⟩ = some (.int .i64 (reachV M q q)) := by rw [hW]; exact HVb.out.at_ q hq6
  have r1 := HTI.out.rng (q := p) (j := q) hp6
  have r2 := HTI.out.rng (q := q) (j := q) hq6
  have r3 := HTI.out.rng (q := 0) (j := q) (by omega)
  have d1 : -4000000000000000 ≤ reachV M q p ∧ reachV M q p ≤ 4000000000000000 := by unfold reachV; omega
  have d2 : -4000000000000000 ≤ reachV M q q ∧ reachV M q q ≤ 4000000000000000 := by unfold reachV; omega
  obtain ⟨d11, d12⟩ := d1
  obtain ⟨d21, d22⟩ := d2
  clear r1 r2 r3
  have v3 : W.cell? ⟨gb, 1, none⟩ = some (.int .i64 (M p q)) := by rw [hW]; exact hbb.cell 1
  have HE := Lib.hid (HTI.out.reach hp6 hq6 HM.out)
  have SW := Lib.hid (show Below w.heap.size w W by rw [hW]; exact below_drewN' SB.out.1 1)
  clear hW hbb
  generalize reachV M q p = rp at *
  generalize reachV M q q = rq at *
  have te : (rp - rq == M p q) = true := by rw [HE.out]; exact beq_self_eq_true _
  clear HE
  iterate 13 still_step
  refine wpStill_nil ?_
  clear v1 v2
  go_wp2_with fail
  rotate_left
  · exfalso; have := eq_of_beq te; omega
  go_at_call 13
  refine (awake_any _).mono ?_
  rintro e WZ ⟨rfl, hB⟩
  have SZ := Lib.hid (SW.out.trans (hB.mono SW.out.size))
  clear hB
  go_wp2_with fail
  go_ret
  exact ⟨rfl, SZ.out⟩
set_option maxHeartbeats 4000000 in
theorem zoneTight_no (w : World) (A0 : Option Addr) (n0 c0 : Nat) (L0 : List Con) (i0 : ConIn w A0 n0 c0 L0) (x1 : Int) (b1 : I64 x1) (x2 : Int) (b2 : I64 x2) (A3 : Option Addr) (n3 c3 : Nat) (L3 : List Int) (i3 : NumIn w A3 n3 c3 L3) (M : Tab) (hv : withZ (some topT) (smallL L0) = some M) (p q : Nat) (hp : x1 % 60 = p) (hp6 : p < 60) (hq : x2 % 60 = q) (hq6 : q < 60) (hm : M p q = 3458764513820540928) :
    Calls Try.prog 7 #[.slice A0 n0 c0, .int .i64 x1, .int .i64 x2, .slice A3 n3 c3] w (True_ w) := by
  have I0 := Lib.hid i0
  have I3 := Lib.hid i3
  have B1 := Lib.hid b1
  have B2 := Lib.hid b2
  have HLS := Lib.hid (show (smallL L0).length ≤ 7000000000000 by have : (smallL L0).length ≤ L0.length := List.length_filter_le _ _; have := i0.len; have := i0.reach; omega)
  have HWS := Lib.hid (wrongL_small L0)
  clear i0 i3 b1 b2
  have HCL := Lib.hid (small_cl hv)
  have HTI := Lib.hid (Cl.tight HCL.out)
  have HMA := Lib.hid (Cl.met HCL.out (HTI.out.meets q))
  have HV := Lib.hid hv
  have HP := Lib.hid hp
  have HQ := Lib.hid hq
  have HM := Lib.hid hm
  have hp1 : (p : Int) < 60 := by omega
  have hq1 : (q : Int) < 60 := by omega
  have hp0 : (0 : Int) ≤ p := by omega
  have hq0 : (0 : Int) ≤ q := by omega
  clear hv hp hq hm
  go_enter Try.func7, Try.ntmps7
  have S0 := Lib.hid (St.start w)
  go_wp2_with fail
  go_at_call 35
  refine (small_any _ A0 n0 c0 L0 I0.out).mono ?_
  rintro e W1 ⟨As, ns, cs, rfl, hLs, hcs, hAs, hB⟩
  have HAs := Lib.hid hAs
  have HNs := Lib.hid hLs
  have HCs := Lib.hid hcs
  have S1 := Lib.hid (show St w W1 [] from (S0.out.up hB))
  clear hB S0 hAs hLs hcs
  go_wp2_with fail
  go_at_call 14
  refine (New_law _).mono ?_
  rintro e W2 ⟨g0, rfl, hg, hz, hB⟩
  have S2 := Lib.hid (show St w W2 [(g0, some topT)] from (S1.out.up hB).add hz)
  have THAs := Lib.hid (HAs.out.below hB)
  clear HAs
  have HAs := THAs
  clear THAs
  clear hB S1 hz hg
  go_wp2_with fail
  go_at_call 20
  refine (cons_law _ As ns cs (smallL L0) HNs.out (by have := HNs.out; have := HLS.out; omega) HAs.out).mono ?_
  rintro e W3 ⟨Al2, nl2, cl2, rfl, hL2, hc2, hA2, hB⟩
  have HA2 := Lib.hid hA2
  have HL2 := Lib.hid hL2
  have S3 := Lib.hid (show St w W3 [(g0, some topT)] from (S2.out.up hB))
  have THAs := Lib.hid (HAs.out.below hB)
  clear HAs
  have HAs := THAs
  clear THAs
  clear hB S2 hA2 hL2 hc2
  go_wp2_with fail
  go_at_call 17
  refine (With_law _ g0 (some topT) Al2 nl2 cl2 (smallL L0) (S3.out.2 (g0, some topT) (by simp)) HL2.out (by have := HL2.out; have := HLS.out; omega) HA2.out HWS.out).mono ?_
  rintro e W4 ⟨gz, rfl, hz, hB⟩
  rw [HV.out] at hz
  have S4 := Lib.hid (show St w W4 [(gz, some M), (g0, some topT)] from (S3.out.up hB).add hz)
  have THAs := Lib.hid (HAs.out.below hB)
  clear HAs
  have HAs := THAs
  clear THAs
  clear hB S3 hz HA2 HL2
  go_wp2_with fail
  go_at_call 18
  refine (Empty_any _ gz (some M) (S4.out.2 (gz, some M) (by simp))).mono ?_
  rintro e W5 ⟨rfl, rfl⟩
  rw [show voidB (some M) = false from rfl]
  have S5 := S4
  clear S4
  go_wp2_with fail
  go_at_call 37
  refine (place_any _ 60 _ B1.out (by omega) (by omega)).mono ?_
  rintro e w' ⟨rfl, rfl⟩
  rw [HP.out]
  go_wp2_with fail
  go_at_call 37
  refine (place_any _ 60 _ B2.out (by omega) (by omega)).mono ?_
  rintro e w' ⟨rfl, rfl⟩
  rw [HQ.out]
  go_wp2_with fail
  go_at_call 42
  refine (reach_any _ gz M _ q (S5.out.2 (gz, some M) (by simp)) hq6).mono ?_
  rintro e W6 ⟨ga, rfl, hg, hv, hB⟩
  have HVa := Lib.hid hv
  have S6 := Lib.hid (show St w W6 [(gz, some M), (g0, some topT)] from (S5.out.up hB))
  have THAs := Lib.hid (HAs.out.below hB)
  clear HAs
  have HAs := THAs
  clear THAs
  clear hB S5 hg hv
  go_wp2_with fail
  go_at_call 21
  refine (met_any _ As ns cs (smallL L0) (small_conIn I0.out HNs.out HCs.out HAs.out) ga (reachV M q) HVa.out (fun x hx => HTI.out.i64 x hx)).mono ?_
  rintro e W7 ⟨Am, nm, cm, rfl, hLm, -, -, hB⟩
  have HNm := Lib.hid hLm
  have S7 := Lib.hid (show St w W7 [(gz, some M), (g0, some topT)] from (S6.out.up hB))
  have THAs := Lib.hid (HAs.out.below hB)
  clear HAs
  have HAs := THAs
  clear THAs
  have THVa := Lib.hid (HVa.out.up hB)
  clear HVa
  have HVa := THVa
  clear THVa
  clear hB S6 hLm
  have hnm : nm = ns := by rw [← HNm.out, HMA.out, HNs.out]
  subst hnm
  have v0 := HVa.out.at_ 0 (by omega)
  rw [show reachV M q 0 = 0 by unfold reachV; omega] at v0
  go_wp2_with fail
  go_at_call 16
  refine (Bound_at _ gz p q M (S7.out.2 (gz, some M) (by simp)) hp6 hq6).mono ?_
  rintro e W8 ⟨rfl, hB⟩
  rw [show bv (bnd (M p q)) = .agg #[.bool false, .int .i64 0] by unfold bnd; rw [if_pos HM.out]; rfl]
  clear v0
  have S8 := Lib.hid (show St w W8 [(gz, some M), (g0, some topT)] from (S7.out.up hB))
  have THAs := Lib.hid (HAs.out.below hB)
  clear HAs
  have HAs := THAs
  clear THAs
  have THVa := Lib.hid (HVa.out.up hB)
  clear HVa
  have HVa := THVa
  clear THVa
  clear hB S7
  go_upto_region 16 with (fail)
  have SB := Lib.hid (S8.out.up (below_box W8 (.cells #[.bool false, .int .i64 0] 28)))
  have HVb := Lib.hid (HVa.out.up (below_box W8 (.cells #[.bool false, .int .i64 0] 28)))
  have hbb := Blk.new W8 28 #[.bool false, .int .i64 0]
  generalize W8.alloc (.cells #[.bool false, .int .i64 0] 28) = WB at *
  generalize W8.heap.size = gb at *
  refine wp_region_tail 11 (by kernel_rfl) (by kernel_rfl) fun W hW => ?_
  simp only [List.take_succ_cons, List.take_zero, List.drop_succ_cons, List.drop_zero]
  have v1 : W.cell? ⟨ga, p, none⟩ = some (.int .i64 (reachV M q p)) := by rw [hW]; exact HVb.out.at_ p hp6
  have v2 : W.cell? ⟨ga, q, none⟩ = some (.int .i64 (reachV M q q)) := by rw [hW]; exact HVb.out.at_ q hq6
  have r1 := HTI.out.rng (q := p) (j := q) hp6
  have r2 := HTI.out.rng (q := q) (j := q) hq6
  have r3 := HTI.out.rng (q := 0) (j := q) (by omega)
  have d1 : -4000000000000000 ≤ reachV M q p ∧ reachV M q p ≤ 4000000000000000 := by unfold reachV; omega
  have d2 : -4000000000000000 ≤ reachV M q q ∧ reachV M q q ≤ 4000000000000000 := by unfold reachV; omega
  obtain ⟨d11, d12⟩ := d1
  obtain ⟨d21, d22⟩ := d2
  clear r1 r2 r3
  have HE := Lib.hid (HTI.out.beyond hp6 hq6 HM.out)
  have SW := Lib.hid (show Below w.heap.size w W by rw [hW]; exact below_drewN' SB.out.1 1)
  clear hW hbb
  generalize reachV M q p = rp at *
  generalize reachV M q q = rq at *
  have te : decide (281474976710656 < rp - rq) = true := decide_eq_true HE.out
  clear HE
  iterate 11 still_step
  refine wpStill_nil ?_
  clear v1 v2
  go_wp2_with fail
  rotate_left
  · exfalso; have := of_decide_eq_true te; omega
  go_at_call 13
  refine (awake_any _).mono ?_
  rintro e WZ ⟨rfl, hB⟩
  have SZ := Lib.hid (SW.out.trans (hB.mono SW.out.size))
  clear hB
  go_wp2_with fail
  go_ret
  exact ⟨rfl, SZ.out⟩
theorem zoneTight_walk (w : World) (A0 : Option Addr) (n0 c0 : Nat) (L0 : List Con) (i0 : ConIn w A0 n0 c0 L0) (x1 : Int) (b1 : I64 x1) (x2 : Int) (b2 : I64 x2) (A3 : Option Addr) (n3 c3 : Nat) (L3 : List Int) (i3 : NumIn w A3 n3 c3 L3) :
    Calls Try.prog 7 #[.slice A0 n0 c0, .int .i64 x1, .int .i64 x2, .slice A3 n3 c3] w (True_ w) := by
  cases h : withZ (some topT) (smallL L0) with
  | none => exact zoneTight_void w A0 n0 c0 L0 i0 x1 b1 x2 b2 A3 n3 c3 L3 i3 h
  | some M =>
    obtain ⟨p, hp, hp6⟩ := mod60 x1
    obtain ⟨q, hq, hq6⟩ := mod60 x2
    by_cases hm : M p q = 3458764513820540928
    · exact zoneTight_no w A0 n0 c0 L0 i0 x1 b1 x2 b2 A3 n3 c3 L3 i3 M h p q hp hp6 hq hq6 hm
    · exact zoneTight_at w A0 n0 c0 L0 i0 x1 b1 x2 b2 A3 n3 c3 L3 i3 M h p q hp hp6 hq hq6 hm
end Go.Proofs.YtilofjbobmeniaaR
