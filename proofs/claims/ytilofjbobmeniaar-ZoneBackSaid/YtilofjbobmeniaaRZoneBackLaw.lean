/- ZoneBack: the walk of the law. -/
import Derived.Test.YtilofjbobmeniaaRZoneM5
namespace Go.Proofs.YtilofjbobmeniaaR
open Go.ChangeShapes Go.WideShapes Go.ChangeAt Go.RowKit
open Zon
set_option linter.unusedVariables false
set_option maxRecDepth 100000
theorem filter_all_len (L : List Con) : (smallL L).length ≤ L.length := List.length_filter_le _ _
set_option maxHeartbeats 4000000 in
theorem zoneBack_void (w : World) (A0 : Option Addr) (n0 c0 : Nat) (L0 : List Con) (i0 : ConIn w A0 n0 c0 L0) (hv : withZ (some topT) (smallL L0) = none) :
    Calls Try.prog 8 #[.slice A0 n0 c0] w (True_ w) := by
  have I0 := Lib.hid i0
  have HLS := Lib.hid (show (smallL L0).length ≤ 7000000000000 by have := filter_all_len L0; have := i0.len; have := i0.reach; omega)
  have HWS := Lib.hid (wrongL_small L0)
  clear i0
  have HV := Lib.hid hv
  clear hv
  go_enter Try.func8, Try.ntmps8
  have S0 := Lib.hid (St.start w)
  go_wp2_with fail
  go_at_call 35
  refine (small_any _ A0 n0 c0 L0 I0.out).mono ?_
  rintro e W1 ⟨As, ns, cs, rfl, hLs, hcs, hAs, hB⟩
  have HAs := Lib.hid hAs
  have HNs := Lib.hid hLs
  have S1 := Lib.hid (show St w W1 [] from (S0.out.up hB))
  clear hB S0 hAs hLs hcs
  go_wp2_with fail
  go_at_call 14
  refine (New_law _).mono ?_
  rintro e W2 ⟨g0, rfl, hg, hz, hB⟩
  have HAt := Lib.hid (HAs.out.below hB)
  have S2 := Lib.hid (show St w W2 [(g0, some topT)] from (S1.out.up hB).add hz)
  clear hB S1 hz hg HAs
  go_wp2_with fail
  go_at_call 20
  refine (cons_law _ As ns cs (smallL L0) HNs.out (by have := HNs.out; have := HLS.out; omega) HAt.out).mono ?_
  rintro e W3 ⟨Al2, nl2, cl2, rfl, hL2, hc2, hA2, hB⟩
  have HA2 := Lib.hid hA2
  have HL2 := Lib.hid hL2
  have S3 := Lib.hid (show St w W3 [(g0, some topT)] from (S2.out.up hB))
  clear hB S2 hA2 hL2 hc2
  go_wp2_with fail
  go_at_call 17
  refine (With_law _ g0 (some topT) Al2 nl2 cl2 (smallL L0) (S3.out.2 (g0, some topT) (by simp)) HL2.out (by have := HL2.out; have := HLS.out; omega) HA2.out HWS.out).mono ?_
  rintro e W4 ⟨gz, rfl, hz, hB⟩
  rw [HV.out] at hz
  have S4 := Lib.hid (show St w W4 [(gz, none), (g0, some topT)] from (S3.out.up hB).add hz)
  clear hB S3 hz HA2 HL2 HAt
  go_wp2_with fail
  go_at_call 18
  refine (Empty_any _ gz none (S4.out.2 (gz, none) (by simp))).mono ?_
  rintro e W5 ⟨rfl, rfl⟩
  rw [show voidB none = true from rfl]
  have S5 := S4
  clear S4
  go_wp2_with fail
  go_at_call 13
  refine (awake_any _).mono ?_
  rintro e W6 ⟨rfl, hB⟩
  have S6 := Lib.hid (show St w W6 [(gz, none), (g0, some topT)] from (S5.out.up hB))
  clear hB S5
  go_wp2_with fail
  go_ret
  exact ⟨rfl, S6.out.1⟩
set_option maxHeartbeats 4000000 in
theorem zoneBack_some (w : World) (A0 : Option Addr) (n0 c0 : Nat) (L0 : List Con) (i0 : ConIn w A0 n0 c0 L0) (M : Tab) (hv : withZ (some topT) (smallL L0) = some M) :
    Calls Try.prog 8 #[.slice A0 n0 c0] w (True_ w) := by
  have I0 := Lib.hid i0
  have HLS := Lib.hid (show (smallL L0).length ≤ 7000000000000 by have := filter_all_len L0; have := i0.len; have := i0.reach; omega)
  have HWS := Lib.hid (wrongL_small L0)
  clear i0
  have HBM := Lib.hid (back_math L0 hv)
  have HKL := Lib.hid (show (consT M).length ≤ 7000000000000 by have := consN_len M 60; show (consN M 60).length ≤ _; omega)
  have HV := Lib.hid hv
  clear hv
  go_enter Try.func8, Try.ntmps8
  have S0 := Lib.hid (St.start w)
  go_wp2_with fail
  go_at_call 35
  refine (small_any _ A0 n0 c0 L0 I0.out).mono ?_
  rintro e W1 ⟨As, ns, cs, rfl, hLs, hcs, hAs, hB⟩
  have HAs := Lib.hid hAs
  have HNs := Lib.hid hLs
  have S1 := Lib.hid (show St w W1 [] from (S0.out.up hB))
  clear hB S0 hAs hLs hcs
  go_wp2_with fail
  go_at_call 14
  refine (New_law _).mono ?_
  rintro e W2 ⟨g0, rfl, hg, hz, hB⟩
  have HAt := Lib.hid (HAs.out.below hB)
  have S2 := Lib.hid (show St w W2 [(g0, some topT)] from (S1.out.up hB).add hz)
  clear hB S1 hz hg HAs
  go_wp2_with fail
  go_at_call 20
  refine (cons_law _ As ns cs (smallL L0) HNs.out (by have := HNs.out; have := HLS.out; omega) HAt.out).mono ?_
  rintro e W3 ⟨Al2, nl2, cl2, rfl, hL2, hc2, hA2, hB⟩
  have HA2 := Lib.hid hA2
  have HL2 := Lib.hid hL2
  have S3 := Lib.hid (show St w W3 [(g0, some topT)] from (S2.out.up hB))
  clear hB S2 hA2 hL2 hc2
  go_wp2_with fail
  go_at_call 17
  refine (With_law _ g0 (some topT) Al2 nl2 cl2 (smallL L0) (S3.out.2 (g0, some topT) (by simp)) HL2.out (by have := HL2.out; have := HLS.out; omega) HA2.out HWS.out).mono ?_
  rintro e W4 ⟨gz, rfl, hz, hB⟩
  rw [HV.out] at hz
  have S4 := Lib.hid (show St w W4 [(gz, some M), (g0, some topT)] from (S3.out.up hB).add hz)
  clear hB S3 hz HA2 HL2 HAt
  go_wp2_with fail
  go_at_call 18
  refine (Empty_any _ gz (some M) (S4.out.2 (gz, some M) (by simp))).mono ?_
  rintro e W5 ⟨rfl, rfl⟩
  rw [show voidB (some M) = false from rfl]
  have S5 := S4
  clear S4
  go_wp2_with fail
  go_at_call 14
  refine (New_law _).mono ?_
  rintro e W6 ⟨g1, rfl, hg, hz, hB⟩
  have S6 := Lib.hid (show St w W6 [(g1, some topT), (gz, some M), (g0, some topT)] from (S5.out.up hB).add hz)
  clear hB S5 hz hg
  go_wp2_with fail
  go_at_call 15
  refine (Cons_law _ gz (some M) (S6.out.2 (gz, some M) (by simp))).mono ?_
  rintro e W7 ⟨Ak, nk, ck, rfl, hLk, hck, hAk, hB⟩
  have HAk := Lib.hid hAk
  have HNk := Lib.hid (show (consT M).length = nk from hLk)
  have S7 := Lib.hid (show St w W7 [(g1, some topT), (gz, some M), (g0, some topT)] from (S6.out.up hB))
  clear hB S6 hAk hLk hck
  go_wp2_with fail
  go_at_call 17
  refine (With_law _ g1 (some topT) Ak nk ck (consT M) (S7.out.2 (g1, some topT) (by simp)) HNk.out (by have := HNk.out; have := HKL.out; omega) HAk.out HBM.out.1).mono ?_
  rintro e W8 ⟨ga, rfl, hz, hB⟩
  obtain ⟨N, hN, hNs⟩ := HBM.out.2.1
  rw [hN] at hz
  have HN := Lib.hid hNs
  have S8 := Lib.hid (show St w W8 [(ga, some N), (g1, some topT), (gz, some M), (g0, some topT)] from (S7.out.up hB).add hz)
  clear hB S7 hz hN hNs HAk HNk
  go_wp2_with fail
  go_at_call 15
  refine (Cons_law _ gz (some M) (S8.out.2 (gz, some M) (by simp))).mono ?_
  rintro e W9 ⟨Aq, nq, cq, rfl, hLq, hcq, hAq, hB⟩
  have HAq := Lib.hid hAq
  have HNq := Lib.hid (show (consT M).length = nq from hLq)
  have S9 := Lib.hid (show St w W9 [(ga, some N), (g1, some topT), (gz, some M), (g0, some topT)] from (S8.out.up hB))
  clear hB S8 hAq hLq hcq
  go_wp2_with fail
  go_at_call 22
  refine (Close_law _ Aq nq cq (consT M) HNq.out (by have := HNq.out; have := HKL.out; omega) HAq.out HBM.out.1).mono ?_
  rintro e W10 ⟨gb, rfl, hz, hB⟩
  obtain ⟨N2, hN, hNs⟩ := HBM.out.2.2
  rw [hN] at hz
  have HN2 := Lib.hid hNs
  have S10 := Lib.hid (show St w W10 [(gb, some N2), (ga, some N), (g1, some topT), (gz, some M), (g0, some topT)] from (S9.out.up hB).add hz)
  clear hB S9 hz hN hNs HAq HNq
  go_wp2_with fail
  go_at_call 38
  refine (Same_law _ ga gz (some N) (some M) (S10.out.2 (ga, some N) (by simp)) (S10.out.2 (gz, some M) (by simp))).mono ?_
  rintro e W11 ⟨rfl, hB⟩
  rw [HN.out]
  have S11 := Lib.hid (show St w W11 [(gb, some N2), (ga, some N), (g1, some topT), (gz, some M), (g0, some topT)] from (S10.out.up hB))
  clear hB S10
  go_wp2_with fail
  go_at_call 38
  refine (Same_law _ gb gz (some N2) (some M) (S11.out.2 (gb, some N2) (by simp)) (S11.out.2 (gz, some M) (by simp))).mono ?_
  rintro e W12 ⟨rfl, hB⟩
  rw [HN2.out]
  have S12 := Lib.hid (show St w W12 [(gb, some N2), (ga, some N), (g1, some topT), (gz, some M), (g0, some topT)] from (S11.out.up hB))
  clear hB S11
  go_wp2_with fail
  go_at_call 24
  refine (Within_law _ gz ga (some M) (some N) (S12.out.2 (gz, some M) (by simp)) (S12.out.2 (ga, some N) (by simp))).mono ?_
  rintro e W13 ⟨rfl, hB⟩
  rw [(in_of_same HN.out).2]
  have S13 := Lib.hid (show St w W13 [(gb, some N2), (ga, some N), (g1, some topT), (gz, some M), (g0, some topT)] from (S12.out.up hB))
  clear hB S12
  go_wp2_with fail
  go_at_call 24
  refine (Within_law _ ga gz (some N) (some M) (S13.out.2 (ga, some N) (by simp)) (S13.out.2 (gz, some M) (by simp))).mono ?_
  rintro e W14 ⟨rfl, hB⟩
  rw [(in_of_same HN.out).1]
  have S14 := Lib.hid (show St w W14 [(gb, some N2), (ga, some N), (g1, some topT), (gz, some M), (g0, some topT)] from (S13.out.up hB))
  clear hB S13
  go_wp2_with fail
  go_at_call 13
  refine (awake_any _).mono ?_
  rintro e W15 ⟨rfl, hB⟩
  have S15 := Lib.hid (show St w W15 [(gb, some N2), (ga, some N), (g1, some topT), (gz, some M), (g0, some topT)] from (S14.out.up hB))
  clear hB S14
  go_wp2_with fail
  go_ret
  exact ⟨rfl, S15.out.1⟩
theorem zoneBack_walk (w : World) (A0 : Option Addr) (n0 c0 : Nat) (L0 : List Con) (i0 : ConIn w A0 n0 c0 L0) :
    Calls Try.prog 8 #[.slice A0 n0 c0] w (True_ w) := by
  cases h : withZ (some topT) (smallL L0) with
  | none => exact zoneBack_void w A0 n0 c0 L0 i0 h
  | some M => exact zoneBack_some w A0 n0 c0 L0 i0 M h
end Go.Proofs.YtilofjbobmeniaaR
