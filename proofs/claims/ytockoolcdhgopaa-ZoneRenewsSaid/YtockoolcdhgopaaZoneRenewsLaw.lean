/- ZoneRenews: the walk of the law. -/
import Derived.Test.YtockoolcdhgopaaZLw
import Derived.Test.YtockoolcdhgopaaZOp2
namespace Go.Proofs.Ytockoolcdhgopaa
open Go.ChangeShapes Go.WideShapes Go.ChangeAt Go.RowKit
open Zon
set_option linter.unusedVariables false
set_option maxRecDepth 100000
structure OpAt2 (w : World) (b : Nat) (X : Int) (U D : Value) : Prop where
  lt : b < w.heap.size
  x : w.cell? ⟨b, 3, none⟩ = some (.int .i64 X)
  u : w.cell? ⟨b, 8, none⟩ = some U
  d : w.cell? ⟨b, 9, none⟩ = some D
theorem OpAt2.up {w w' : World} {b : Nat} {X : Int} {U D : Value} (h : OpAt2 w b X U D) (hb : Below w.heap.size w w') : OpAt2 w' b X U D :=
  ⟨Nat.lt_of_lt_of_le h.lt hb.size, (hb.cell (p := ⟨b, 3, none⟩) h.lt).trans h.x, (hb.cell (p := ⟨b, 8, none⟩) h.lt).trans h.u, (hb.cell (p := ⟨b, 9, none⟩) h.lt).trans h.d⟩
theorem bv_form2 (v : Option Int) : ∃ bi bc, bv v = .agg #[.bool bi, .int .i64 bc] := by cases v <;> exact ⟨_, _, rfl⟩
theorem near_small (x : Nat) (L M : List (Bool × Int)) : PutSmall x (othR x (nearF L)) (othR x (nearF M)) :=
  ⟨fun k _ => by unfold othR; split; exact .inl rfl; split; exact .inr (nearF_rng ‹_›); exact .inl rfl, fun k _ => by unfold othR; split; exact .inl rfl; split; exact .inr (nearF_rng ‹_›); exact .inl rfl, if_pos rfl, if_pos rfl⟩
theorem oth_at2 {x q : Nat} {b : Nat → Bool × Int} (e : q ≠ x) (h : (b q).1 = true) : othR x b q = (b q).2 := by unfold othR; rw [if_neg e, if_pos h]
theorem near_rngB {L : List (Bool × Int)} {q : Nat} (h : (nearF L q).1 = true) : rngB (nearF L q).2 = true := by have := nearF_rng h; unfold rngB; simp; omega
theorem meets_join2 {M O : Tab} {a : Nat → Int} (h : Meets O a) (hM : OkT M) (hO : OkT O) : Meets (joinT M O) a := fun p q hp hq hne => by
  have h1 := (hM p q hp hq).rng
  have h2 := (hO p q hp hq).rng
  unfold joinT at *
  have h3 : O p q ≠ 3458764513820540928 := by omega
  have := h p q hp hq h3
  omega
/-- each bound of Join is reached in one of the two -/
theorem join_ways {M O : Tab} (hM : Tight M) (hO : Tight O) {p q : Nat} (hp : p < 60) (hq : q < 60) :
    (bv (bnd (joinT M O p q)) = .agg #[.bool true, .int .i64 (joinT M O p q)] ∧ reachV M q p - reachV M q q = joinT M O p q) ∨ (bv (bnd (joinT M O p q)) = .agg #[.bool true, .int .i64 (joinT M O p q)] ∧ reachV M q p - reachV M q q ≠ joinT M O p q ∧ reachV O q p - reachV O q q = joinT M O p q) ∨
    (bv (bnd (joinT M O p q)) = .agg #[.bool false, .int .i64 0] ∧ ¬ reachV M q p - reachV M q q < 281474976710656) ∨ (bv (bnd (joinT M O p q)) = .agg #[.bool false, .int .i64 0] ∧ reachV M q p - reachV M q q < 281474976710656 ∧ ¬ reachV O q p - reachV O q q < 281474976710656) := by
  have r1 := (hM.ok p q hp hq).rng
  have r2 := (hO.ok p q hp hq).rng
  by_cases e1 : M p q = 3458764513820540928
  · have hj : joinT M O p q = 3458764513820540928 := by unfold joinT; omega
    have hb : bv (bnd (joinT M O p q)) = .agg #[.bool false, .int .i64 0] := by rw [hj]; rfl
    have := hM.beyond hp hq e1
    exact .inr (.inr (.inl ⟨hb, by omega⟩))
  · have a1 := hM.reach hp hq e1
    have d1 := hM.bd p q hp hq e1
    by_cases e2 : O p q = 3458764513820540928
    · have hj : joinT M O p q = 3458764513820540928 := by unfold joinT; omega
      have hb : bv (bnd (joinT M O p q)) = .agg #[.bool false, .int .i64 0] := by rw [hj]; rfl
      have := hO.beyond hp hq e2
      exact .inr (.inr (.inr ⟨hb, by omega, by omega⟩))
    · have a2 := hO.reach hp hq e2
      have d2 := hO.bd p q hp hq e2
      have hj : joinT M O p q = max (M p q) (O p q) := rfl
      have hb : bv (bnd (joinT M O p q)) = .agg #[.bool true, .int .i64 (joinT M O p q)] := by unfold bnd; rw [if_neg (by omega)]; rfl
      by_cases e3 : reachV M q p - reachV M q q = joinT M O p q
      · exact .inl ⟨hb, e3⟩
      · exact .inr (.inl ⟨hb, e3, by omega⟩)
set_option maxHeartbeats 6000000 in
theorem zoneRenews_10 (w : World) (A0 : Option Addr) (n0 c0 : Nat) (L0 : List Con) (i0 : ConIn w A0 n0 c0 L0) (A1 : Option Addr) (n1 c1 : Nat) (L1 : List Con) (i1 : ConIn w A1 n1 c1 L1) (k0 k1 k2 X Y C : Int) (hX : I64 X) (A6 A7 A8 A9 : Option Addr) (n6 c6 n7 c7 n8 c8 n9 c9 : Nat) (L8 : List (Bool × Int)) (l8 : L8.length = n8) (i8 : BsAt w A8 L8) (L9 : List (Bool × Int)) (l9 : L9.length = n9) (i9 : BsAt w A9 L9) (x3 : Int) (b3 : I64 x3) (x4 : Int) (b4 : I64 x4) (hv : withZ (some topT) (smallL L0) = none) (zo : Zn) (ho : withZ (some topT) (smallL L1) = zo) :
    Calls Try.prog 7 #[.slice A0 n0 c0, .slice A1 n1 c1, .agg #[.int .i64 k0, .int .i64 k1, .int .i64 k2, .int .i64 X, .int .i64 Y, .int .i64 C, .slice A6 n6 c6, .slice A7 n7 c7, .slice A8 n8 c8, .slice A9 n9 c9], .int .i64 x3, .int .i64 x4] w (True_ w) := by
  have HV := Lib.hid hv
  have HO := Lib.hid ho
  clear hv ho
  have I0 := Lib.hid i0
  have I1 := Lib.hid i1
  have HX := Lib.hid hX
  have B3 := Lib.hid b3
  have B4 := Lib.hid b4
  have L8L := Lib.hid l8
  have L9L := Lib.hid l9
  have I8 := Lib.hid i8
  have I9 := Lib.hid i9
  have HLS0 := Lib.hid (show (smallL L0).length ≤ 7000000000000 by have : (smallL L0).length ≤ L0.length := List.length_filter_le _ _; have := i0.len; have := i0.reach; omega)
  have HWS0 := Lib.hid (wrongL_small L0)
  have HLS1 := Lib.hid (show (smallL L1).length ≤ 7000000000000 by have : (smallL L1).length ≤ L1.length := List.length_filter_le _ _; have := i1.len; have := i1.reach; omega)
  have HWS1 := Lib.hid (wrongL_small L1)
  clear i0 i1 hX b3 b4 l8 l9 i8 i9
  obtain ⟨w1, hw1⟩ : ∃ w1, w1 = w.alloc (.cells #[.int .i64 k0, .int .i64 k1, .int .i64 k2, .int .i64 X, .int .i64 Y, .int .i64 C, .slice A6 n6 c6, .slice A7 n7 c7, .slice A8 n8 c8, .slice A9 n9 c9] 57) := ⟨_, rfl⟩
  have HOP := Lib.hid (show OpAt2 w1 w.heap.size X (.slice A8 n8 c8) (.slice A9 n9 c9) by rw [hw1]; exact ⟨by simp, by simp [go_sem], by simp [go_sem], by simp [go_sem]⟩)
  have HBx := Lib.hid (show Below w.heap.size w w1 by rw [hw1]; exact below_box w _)
  have HW1 := Lib.hid hw1
  clear hw1
  go_enter Try.func7, Try.ntmps7
  go_upto_region 1 with (fail)
  rw [← HW1.out]
  clear HW1
  obtain ⟨bx, hbx⟩ : ∃ bx, bx = w.heap.size := ⟨_, rfl⟩
  rw [← hbx] at HOP ⊢
  have HBX := Lib.hid hbx
  clear hbx
  have S0 := Lib.hid (show St w w1 [] from (St.start w).up HBx.out)
  clear HBx
  go_wp2_with fail
  go_at_call 9
  refine (New_law _).mono ?_
  rintro e W1 ⟨g0, rfl, hg, hz, hB⟩
  have S1 := Lib.hid (show St w W1 [(g0, some topT)] from (S0.out.up hB).add hz)
  have THOP := Lib.hid (HOP.out.up hB)
  clear HOP
  have HOP := THOP
  clear THOP
  clear hB S0 hz hg
  go_wp2_with fail
  go_at_call 19
  refine (small_any _ A0 n0 c0 L0 (lw_conb I0.out S1.out.1)).mono ?_
  rintro e W2 ⟨As, ns, cs, rfl, hLs, hcs, hAs, hB⟩
  have HAs1 := Lib.hid hAs
  have HNs1 := Lib.hid hLs
  have S2 := Lib.hid (show St w W2 [(g0, some topT)] from (S1.out.up hB))
  have THOP := Lib.hid (HOP.out.up hB)
  clear HOP
  have HOP := THOP
  clear THOP
  clear hB S1 hAs hLs hcs
  go_wp2_with fail
  go_at_call 11
  refine (cons_law _ As ns cs (smallL L0) (HNs1.out) (by have := HNs1.out; have := HLS0.out; omega) HAs1.out).mono ?_
  rintro e W3 ⟨Al2, nl2, cl2, rfl, hL2, hc2, hA2, hB⟩
  have HA2 := Lib.hid hA2
  have HL102 := Lib.hid hL2
  have S3 := Lib.hid (show St w W3 [(g0, some topT)] from (S2.out.up hB))
  have THOP := Lib.hid (HOP.out.up hB)
  clear HOP
  have HOP := THOP
  clear THOP
  clear hB S2 hA2 hL2 hc2
  go_wp2_with fail
  go_at_call 10
  refine (With_law _ g0 (some topT) Al2 nl2 cl2 (smallL L0) (S3.out.2 (g0, some topT) (by simp)) HL102.out (by have := HL102.out; have := HLS0.out; omega) HA2.out HWS0.out).mono ?_
  rintro e W4 ⟨gz, rfl, hz, hB⟩
  rw [HV.out] at hz
  have S4 := Lib.hid (show St w W4 [(gz, none), (g0, some topT)] from (S3.out.up hB).add hz)
  have THOP := Lib.hid (HOP.out.up hB)
  clear HOP
  have HOP := THOP
  clear THOP
  clear hB S3 hz HA2 HL102
  go_wp2_with fail
  go_at_call 9
  refine (New_law _).mono ?_
  rintro e W5 ⟨g1, rfl, hg, hz, hB⟩
  have S5 := Lib.hid (show St w W5 [(g1, some topT), (gz, none), (g0, some topT)] from (S4.out.up hB).add hz)
  have THOP := Lib.hid (HOP.out.up hB)
  clear HOP
  have HOP := THOP
  clear THOP
  clear hB S4 hz hg
  go_wp2_with fail
  go_at_call 19
  refine (small_any _ A1 n1 c1 L1 (lw_conb I1.out S5.out.1)).mono ?_
  rintro e W6 ⟨As, ns, cs, rfl, hLs, hcs, hAs, hB⟩
  have HAs5 := Lib.hid hAs
  have HNs5 := Lib.hid hLs
  have S6 := Lib.hid (show St w W6 [(g1, some topT), (gz, none), (g0, some topT)] from (S5.out.up hB))
  have THOP := Lib.hid (HOP.out.up hB)
  clear HOP
  have HOP := THOP
  clear THOP
  clear hB S5 hAs hLs hcs
  go_wp2_with fail
  go_at_call 11
  refine (cons_law _ As ns cs (smallL L1) (HNs5.out) (by have := HNs5.out; have := HLS1.out; omega) HAs5.out).mono ?_
  rintro e W7 ⟨Al6, nl6, cl6, rfl, hL6, hc6, hA6, hB⟩
  have HA6 := Lib.hid hA6
  have HL106 := Lib.hid hL6
  have S7 := Lib.hid (show St w W7 [(g1, some topT), (gz, none), (g0, some topT)] from (S6.out.up hB))
  have THOP := Lib.hid (HOP.out.up hB)
  clear HOP
  have HOP := THOP
  clear THOP
  clear hB S6 hA6 hL6 hc6
  go_wp2_with fail
  go_at_call 10
  refine (With_law _ g1 (some topT) Al6 nl6 cl6 (smallL L1) (S7.out.2 (g1, some topT) (by simp)) HL106.out (by have := HL106.out; have := HLS1.out; omega) HA6.out HWS1.out).mono ?_
  rintro e W8 ⟨go, rfl, hz, hB⟩
  rw [HO.out] at hz
  have S8 := Lib.hid (show St w W8 [(go, zo), (g1, some topT), (gz, none), (g0, some topT)] from (S7.out.up hB).add hz)
  have THOP := Lib.hid (HOP.out.up hB)
  clear HOP
  have HOP := THOP
  clear THOP
  clear hB S7 hz HA6 HL106
  go_wp2_with fail
  go_at_call 24
  refine (Empty_any _ gz none (S8.out.2 (gz, none) (by simp))).mono ?_
  rintro e W9 ⟨rfl, rfl⟩
  rw [show voidB none = true from rfl]
  have S9 := S8
  clear S8
  go_wp2_with fail
  go_at_call 14
  refine (awake_any _).mono ?_
  rintro e W10 ⟨rfl, hB⟩
  have S10 := Lib.hid (show St w W10 [(go, zo), (g1, some topT), (gz, none), (g0, some topT)] from (S9.out.up hB))
  have THOP := Lib.hid (HOP.out.up hB)
  clear HOP
  have HOP := THOP
  clear THOP
  clear hB S9
  go_wp2_with fail
  go_ret
  exact ⟨rfl, S10.out.1⟩
set_option maxHeartbeats 6000000 in
theorem zoneRenews_01 (w : World) (A0 : Option Addr) (n0 c0 : Nat) (L0 : List Con) (i0 : ConIn w A0 n0 c0 L0) (A1 : Option Addr) (n1 c1 : Nat) (L1 : List Con) (i1 : ConIn w A1 n1 c1 L1) (k0 k1 k2 X Y C : Int) (hX : I64 X) (A6 A7 A8 A9 : Option Addr) (n6 c6 n7 c7 n8 c8 n9 c9 : Nat) (L8 : List (Bool × Int)) (l8 : L8.length = n8) (i8 : BsAt w A8 L8) (L9 : List (Bool × Int)) (l9 : L9.length = n9) (i9 : BsAt w A9 L9) (x3 : Int) (b3 : I64 x3) (x4 : Int) (b4 : I64 x4) (M : Tab) (hv : withZ (some topT) (smallL L0) = some M) (ho : withZ (some topT) (smallL L1) = none) :
    Calls Try.prog 7 #[.slice A0 n0 c0, .slice A1 n1 c1, .agg #[.int .i64 k0, .int .i64 k1, .int .i64 k2, .int .i64 X, .int .i64 Y, .int .i64 C, .slice A6 n6 c6, .slice A7 n7 c7, .slice A8 n8 c8, .slice A9 n9 c9], .int .i64 x3, .int .i64 x4] w (True_ w) := by
  have HV := Lib.hid hv
  have HO := Lib.hid ho
  clear hv ho
  have I0 := Lib.hid i0
  have I1 := Lib.hid i1
  have HX := Lib.hid hX
  have B3 := Lib.hid b3
  have B4 := Lib.hid b4
  have L8L := Lib.hid l8
  have L9L := Lib.hid l9
  have I8 := Lib.hid i8
  have I9 := Lib.hid i9
  have HLS0 := Lib.hid (show (smallL L0).length ≤ 7000000000000 by have : (smallL L0).length ≤ L0.length := List.length_filter_le _ _; have := i0.len; have := i0.reach; omega)
  have HWS0 := Lib.hid (wrongL_small L0)
  have HLS1 := Lib.hid (show (smallL L1).length ≤ 7000000000000 by have : (smallL L1).length ≤ L1.length := List.length_filter_le _ _; have := i1.len; have := i1.reach; omega)
  have HWS1 := Lib.hid (wrongL_small L1)
  clear i0 i1 hX b3 b4 l8 l9 i8 i9
  obtain ⟨w1, hw1⟩ : ∃ w1, w1 = w.alloc (.cells #[.int .i64 k0, .int .i64 k1, .int .i64 k2, .int .i64 X, .int .i64 Y, .int .i64 C, .slice A6 n6 c6, .slice A7 n7 c7, .slice A8 n8 c8, .slice A9 n9 c9] 57) := ⟨_, rfl⟩
  have HOP := Lib.hid (show OpAt2 w1 w.heap.size X (.slice A8 n8 c8) (.slice A9 n9 c9) by rw [hw1]; exact ⟨by simp, by simp [go_sem], by simp [go_sem], by simp [go_sem]⟩)
  have HBx := Lib.hid (show Below w.heap.size w w1 by rw [hw1]; exact below_box w _)
  have HW1 := Lib.hid hw1
  clear hw1
  go_enter Try.func7, Try.ntmps7
  go_upto_region 1 with (fail)
  rw [← HW1.out]
  clear HW1
  obtain ⟨bx, hbx⟩ : ∃ bx, bx = w.heap.size := ⟨_, rfl⟩
  rw [← hbx] at HOP ⊢
  have HBX := Lib.hid hbx
  clear hbx
  have S0 := Lib.hid (show St w w1 [] from (St.start w).up HBx.out)
  clear HBx
  go_wp2_with fail
  go_at_call 9
  refine (New_law _).mono ?_
  rintro e W1 ⟨g0, rfl, hg, hz, hB⟩
  have S1 := Lib.hid (show St w W1 [(g0, some topT)] from (S0.out.up hB).add hz)
  have THOP := Lib.hid (HOP.out.up hB)
  clear HOP
  have HOP := THOP
  clear THOP
  clear hB S0 hz hg
  go_wp2_with fail
  go_at_call 19
  refine (small_any _ A0 n0 c0 L0 (lw_conb I0.out S1.out.1)).mono ?_
  rintro e W2 ⟨As, ns, cs, rfl, hLs, hcs, hAs, hB⟩
  have HAs1 := Lib.hid hAs
  have HNs1 := Lib.hid hLs
  have S2 := Lib.hid (show St w W2 [(g0, some topT)] from (S1.out.up hB))
  have THOP := Lib.hid (HOP.out.up hB)
  clear HOP
  have HOP := THOP
  clear THOP
  clear hB S1 hAs hLs hcs
  go_wp2_with fail
  go_at_call 11
  refine (cons_law _ As ns cs (smallL L0) (HNs1.out) (by have := HNs1.out; have := HLS0.out; omega) HAs1.out).mono ?_
  rintro e W3 ⟨Al2, nl2, cl2, rfl, hL2, hc2, hA2, hB⟩
  have HA2 := Lib.hid hA2
  have HL102 := Lib.hid hL2
  have S3 := Lib.hid (show St w W3 [(g0, some topT)] from (S2.out.up hB))
  have THOP := Lib.hid (HOP.out.up hB)
  clear HOP
  have HOP := THOP
  clear THOP
  clear hB S2 hA2 hL2 hc2
  go_wp2_with fail
  go_at_call 10
  refine (With_law _ g0 (some topT) Al2 nl2 cl2 (smallL L0) (S3.out.2 (g0, some topT) (by simp)) HL102.out (by have := HL102.out; have := HLS0.out; omega) HA2.out HWS0.out).mono ?_
  rintro e W4 ⟨gz, rfl, hz, hB⟩
  rw [HV.out] at hz
  have S4 := Lib.hid (show St w W4 [(gz, some M), (g0, some topT)] from (S3.out.up hB).add hz)
  have THOP := Lib.hid (HOP.out.up hB)
  clear HOP
  have HOP := THOP
  clear THOP
  clear hB S3 hz HA2 HL102
  go_wp2_with fail
  go_at_call 9
  refine (New_law _).mono ?_
  rintro e W5 ⟨g1, rfl, hg, hz, hB⟩
  have S5 := Lib.hid (show St w W5 [(g1, some topT), (gz, some M), (g0, some topT)] from (S4.out.up hB).add hz)
  have THOP := Lib.hid (HOP.out.up hB)
  clear HOP
  have HOP := THOP
  clear THOP
  clear hB S4 hz hg
  go_wp2_with fail
  go_at_call 19
  refine (small_any _ A1 n1 c1 L1 (lw_conb I1.out S5.out.1)).mono ?_
  rintro e W6 ⟨As, ns, cs, rfl, hLs, hcs, hAs, hB⟩
  have HAs5 := Lib.hid hAs
  have HNs5 := Lib.hid hLs
  have S6 := Lib.hid (show St w W6 [(g1, some topT), (gz, some M), (g0, some topT)] from (S5.out.up hB))
  have THOP := Lib.hid (HOP.out.up hB)
  clear HOP
  have HOP := THOP
  clear THOP
  clear hB S5 hAs hLs hcs
  go_wp2_with fail
  go_at_call 11
  refine (cons_law _ As ns cs (smallL L1) (HNs5.out) (by have := HNs5.out; have := HLS1.out; omega) HAs5.out).mono ?_
  rintro e W7 ⟨Al6, nl6, cl6, rfl, hL6, hc6, hA6, hB⟩
  have HA6 := Lib.hid hA6
  have HL106 := Lib.hid hL6
  have S7 := Lib.hid (show St w W7 [(g1, some topT), (gz, some M), (g0, some topT)] from (S6.out.up hB))
  have THOP := Lib.hid (HOP.out.up hB)
  clear HOP
  have HOP := THOP
  clear THOP
  clear hB S6 hA6 hL6 hc6
  go_wp2_with fail
  go_at_call 10
  refine (With_law _ g1 (some topT) Al6 nl6 cl6 (smallL L1) (S7.out.2 (g1, some topT) (by simp)) HL106.out (by have := HL106.out; have := HLS1.out; omega) HA6.out HWS1.out).mono ?_
  rintro e W8 ⟨go, rfl, hz, hB⟩
  rw [HO.out] at hz
  have S8 := Lib.hid (show St w W8 [(go, none), (g1, some topT), (gz, some M), (g0, some topT)] from (S7.out.up hB).add hz)
  have THOP := Lib.hid (HOP.out.up hB)
  clear HOP
  have HOP := THOP
  clear THOP
  clear hB S7 hz HA6 HL106
  go_wp2_with fail
  go_at_call 24
  refine (Empty_any _ gz (some M) (S8.out.2 (gz, some M) (by simp))).mono ?_
  rintro e W9 ⟨rfl, rfl⟩
  rw [show voidB (some M) = false from rfl]
  have S9 := S8
  clear S8
  go_wp2_with fail
  go_at_call 24
  refine (Empty_any _ go none (S9.out.2 (go, none) (by simp))).mono ?_
  rintro e W10 ⟨rfl, rfl⟩
  rw [show voidB none = true from rfl]
  have S10 := S9
  clear S9
  go_wp2_with fail
  go_at_call 14
  refine (awake_any _).mono ?_
  rintro e W11 ⟨rfl, hB⟩
  have S11 := Lib.hid (show St w W11 [(go, none), (g1, some topT), (gz, some M), (g0, some topT)] from (S10.out.up hB))
  have THOP := Lib.hid (HOP.out.up hB)
  clear HOP
  have HOP := THOP
  clear THOP
  clear hB S10
  go_wp2_with fail
  go_ret
  exact ⟨rfl, S11.out.1⟩
set_option maxHeartbeats 6000000 in
theorem zoneRenews_w1 (w : World) (A0 : Option Addr) (n0 c0 : Nat) (L0 : List Con) (i0 : ConIn w A0 n0 c0 L0) (A1 : Option Addr) (n1 c1 : Nat) (L1 : List Con) (i1 : ConIn w A1 n1 c1 L1) (k0 k1 k2 X Y C : Int) (hX : I64 X) (A6 A7 A8 A9 : Option Addr) (n6 c6 n7 c7 n8 c8 n9 c9 : Nat) (L8 : List (Bool × Int)) (l8 : L8.length = n8) (i8 : BsAt w A8 L8) (L9 : List (Bool × Int)) (l9 : L9.length = n9) (i9 : BsAt w A9 L9) (x3 : Int) (b3 : I64 x3) (x4 : Int) (b4 : I64 x4) (M : Tab) (hv : withZ (some topT) (smallL L0) = some M) (O : Tab) (ho : withZ (some topT) (smallL L1) = some O) (p q : Nat) (hp : x3 % 60 = p) (hp6 : p < 60) (hq : x4 % 60 = q) (hq6 : q < 60) (hjw0 : bv (bnd (joinT M O p q)) = .agg #[.bool true, .int .i64 (joinT M O p q)] ∧ reachV M q p - reachV M q q = joinT M O p q) :
    Calls Try.prog 7 #[.slice A0 n0 c0, .slice A1 n1 c1, .agg #[.int .i64 k0, .int .i64 k1, .int .i64 k2, .int .i64 X, .int .i64 Y, .int .i64 C, .slice A6 n6 c6, .slice A7 n7 c7, .slice A8 n8 c8, .slice A9 n9 c9], .int .i64 x3, .int .i64 x4] w (True_ w) := by
  have HTI := Lib.hid (Cl.tight' (small_cl hv))
  have HTO := Lib.hid (Cl.tight (small_cl ho))
  have HV := Lib.hid hv
  have HO := Lib.hid ho
  have HP := Lib.hid hp
  have HQ := Lib.hid hq
  have HQ6 := Lib.hid hq6
  have HP6 := Lib.hid hp6
  have HJW := Lib.hid hjw0
  clear hjw0
  have hp0 : (0 : Int) ≤ p := by omega
  have hp61 : (p : Int) < 60 := by omega
  have hq0 : (0 : Int) ≤ q := by omega
  have hq61 : (q : Int) < 60 := by omega
  clear hv ho hp hq hq6 hp6
  have I0 := Lib.hid i0
  have I1 := Lib.hid i1
  have HX := Lib.hid hX
  have B3 := Lib.hid b3
  have B4 := Lib.hid b4
  have L8L := Lib.hid l8
  have L9L := Lib.hid l9
  have I8 := Lib.hid i8
  have I9 := Lib.hid i9
  have HLS0 := Lib.hid (show (smallL L0).length ≤ 7000000000000 by have : (smallL L0).length ≤ L0.length := List.length_filter_le _ _; have := i0.len; have := i0.reach; omega)
  have HWS0 := Lib.hid (wrongL_small L0)
  have HLS1 := Lib.hid (show (smallL L1).length ≤ 7000000000000 by have : (smallL L1).length ≤ L1.length := List.length_filter_le _ _; have := i1.len; have := i1.reach; omega)
  have HWS1 := Lib.hid (wrongL_small L1)
  clear i0 i1 hX b3 b4 l8 l9 i8 i9
  obtain ⟨w1, hw1⟩ : ∃ w1, w1 = w.alloc (.cells #[.int .i64 k0, .int .i64 k1, .int .i64 k2, .int .i64 X, .int .i64 Y, .int .i64 C, .slice A6 n6 c6, .slice A7 n7 c7, .slice A8 n8 c8, .slice A9 n9 c9] 57) := ⟨_, rfl⟩
  have HOP := Lib.hid (show OpAt2 w1 w.heap.size X (.slice A8 n8 c8) (.slice A9 n9 c9) by rw [hw1]; exact ⟨by simp, by simp [go_sem], by simp [go_sem], by simp [go_sem]⟩)
  have HBx := Lib.hid (show Below w.heap.size w w1 by rw [hw1]; exact below_box w _)
  have HW1 := Lib.hid hw1
  clear hw1
  go_enter Try.func7, Try.ntmps7
  go_upto_region 1 with (fail)
  rw [← HW1.out]
  clear HW1
  obtain ⟨bx, hbx⟩ : ∃ bx, bx = w.heap.size := ⟨_, rfl⟩
  rw [← hbx] at HOP ⊢
  have HBX := Lib.hid hbx
  clear hbx
  have S0 := Lib.hid (show St w w1 [] from (St.start w).up HBx.out)
  clear HBx
  go_wp2_with fail
  go_at_call 9
  refine (New_law _).mono ?_
  rintro e W1 ⟨g0, rfl, hg, hz, hB⟩
  have S1 := Lib.hid (show St w W1 [(g0, some topT)] from (S0.out.up hB).add hz)
  have THOP := Lib.hid (HOP.out.up hB)
  clear HOP
  have HOP := THOP
  clear THOP
  clear hB S0 hz hg
  go_wp2_with fail
  go_at_call 19
  refine (small_any _ A0 n0 c0 L0 (lw_conb I0.out S1.out.1)).mono ?_
  rintro e W2 ⟨As, ns, cs, rfl, hLs, hcs, hAs, hB⟩
  have HAs1 := Lib.hid hAs
  have HNs1 := Lib.hid hLs
  have S2 := Lib.hid (show St w W2 [(g0, some topT)] from (S1.out.up hB))
  have THOP := Lib.hid (HOP.out.up hB)
  clear HOP
  have HOP := THOP
  clear THOP
  clear hB S1 hAs hLs hcs
  go_wp2_with fail
  go_at_call 11
  refine (cons_law _ As ns cs (smallL L0) (HNs1.out) (by have := HNs1.out; have := HLS0.out; omega) HAs1.out).mono ?_
  rintro e W3 ⟨Al2, nl2, cl2, rfl, hL2, hc2, hA2, hB⟩
  have HA2 := Lib.hid hA2
  have HL102 := Lib.hid hL2
  have S3 := Lib.hid (show St w W3 [(g0, some topT)] from (S2.out.up hB))
  have THOP := Lib.hid (HOP.out.up hB)
  clear HOP
  have HOP := THOP
  clear THOP
  clear hB S2 hA2 hL2 hc2
  go_wp2_with fail
  go_at_call 10
  refine (With_law _ g0 (some topT) Al2 nl2 cl2 (smallL L0) (S3.out.2 (g0, some topT) (by simp)) HL102.out (by have := HL102.out; have := HLS0.out; omega) HA2.out HWS0.out).mono ?_
  rintro e W4 ⟨gz, rfl, hz, hB⟩
  rw [HV.out] at hz
  have S4 := Lib.hid (show St w W4 [(gz, some M), (g0, some topT)] from (S3.out.up hB).add hz)
  have THOP := Lib.hid (HOP.out.up hB)
  clear HOP
  have HOP := THOP
  clear THOP
  clear hB S3 hz HA2 HL102
  go_wp2_with fail
  go_at_call 9
  refine (New_law _).mono ?_
  rintro e W5 ⟨g1, rfl, hg, hz, hB⟩
  have S5 := Lib.hid (show St w W5 [(g1, some topT), (gz, some M), (g0, some topT)] from (S4.out.up hB).add hz)
  have THOP := Lib.hid (HOP.out.up hB)
  clear HOP
  have HOP := THOP
  clear THOP
  clear hB S4 hz hg
  go_wp2_with fail
  go_at_call 19
  refine (small_any _ A1 n1 c1 L1 (lw_conb I1.out S5.out.1)).mono ?_
  rintro e W6 ⟨As, ns, cs, rfl, hLs, hcs, hAs, hB⟩
  have HAs5 := Lib.hid hAs
  have HNs5 := Lib.hid hLs
  have S6 := Lib.hid (show St w W6 [(g1, some topT), (gz, some M), (g0, some topT)] from (S5.out.up hB))
  have THOP := Lib.hid (HOP.out.up hB)
  clear HOP
  have HOP := THOP
  clear THOP
  clear hB S5 hAs hLs hcs
  go_wp2_with fail
  go_at_call 11
  refine (cons_law _ As ns cs (smallL L1) (HNs5.out) (by have := HNs5.out; have := HLS1.out; omega) HAs5.out).mono ?_
  rintro e W7 ⟨Al6, nl6, cl6, rfl, hL6, hc6, hA6, hB⟩
  have HA6 := Lib.hid hA6
  have HL106 := Lib.hid hL6
  have S7 := Lib.hid (show St w W7 [(g1, some topT), (gz, some M), (g0, some topT)] from (S6.out.up hB))
  have THOP := Lib.hid (HOP.out.up hB)
  clear HOP
  have HOP := THOP
  clear THOP
  clear hB S6 hA6 hL6 hc6
  go_wp2_with fail
  go_at_call 10
  refine (With_law _ g1 (some topT) Al6 nl6 cl6 (smallL L1) (S7.out.2 (g1, some topT) (by simp)) HL106.out (by have := HL106.out; have := HLS1.out; omega) HA6.out HWS1.out).mono ?_
  rintro e W8 ⟨go, rfl, hz, hB⟩
  rw [HO.out] at hz
  have S8 := Lib.hid (show St w W8 [(go, some O), (g1, some topT), (gz, some M), (g0, some topT)] from (S7.out.up hB).add hz)
  have THOP := Lib.hid (HOP.out.up hB)
  clear HOP
  have HOP := THOP
  clear THOP
  clear hB S7 hz HA6 HL106
  go_wp2_with fail
  go_at_call 24
  refine (Empty_any _ gz (some M) (S8.out.2 (gz, some M) (by simp))).mono ?_
  rintro e W9 ⟨rfl, rfl⟩
  rw [show voidB (some M) = false from rfl]
  have S9 := S8
  clear S8
  go_wp2_with fail
  go_at_call 24
  refine (Empty_any _ go (some O) (S9.out.2 (go, some O) (by simp))).mono ?_
  rintro e W10 ⟨rfl, rfl⟩
  rw [show voidB (some O) = false from rfl]
  have S10 := S9
  clear S9
  go_wp2_with fail
  go_at_call 22
  refine (place_any _ 60 _ B3.out (by omega) (by omega)).mono ?_
  rintro e w' ⟨rfl, rfl⟩
  rw [HP.out]
  go_wp2_with fail
  go_at_call 22
  refine (place_any _ 60 _ B4.out (by omega) (by omega)).mono ?_
  rintro e w' ⟨rfl, rfl⟩
  rw [HQ.out]
  go_wp2_with fail
  go_at_call 38
  refine (Join_any _ gz go (some M) (some O) (S10.out.2 (gz, some M) (by simp)) (S10.out.2 (go, some O) (by simp))).mono ?_
  rintro e W11 ⟨gj, rfl, hg, hz, hB⟩
  have S11 := Lib.hid (show St w W11 [(gj, mergeZ joinT (some M) (some O)), (go, some O), (g1, some topT), (gz, some M), (g0, some topT)] from (S10.out.up hB).add hz)
  have THOP := Lib.hid (HOP.out.up hB)
  clear HOP
  have HOP := THOP
  clear THOP
  clear hB S10 hz hg
  go_wp2_with fail
  go_at_call 18
  refine (Bound_at _ gj p q (joinT M O) (S11.out.2 (gj, mergeZ joinT (some M) (some O)) (by simp)) HP6.out HQ6.out).mono ?_
  rintro e W12 ⟨rfl, hB⟩
  obtain ⟨bi, bc, hbv⟩ := bv_form2 (bnd (joinT M O p q))
  rw [hbv]
  have HBV := Lib.hid hbv
  clear hbv
  have S12 := Lib.hid (show St w W12 [(gj, mergeZ joinT (some M) (some O)), (go, some O), (g1, some topT), (gz, some M), (g0, some topT)] from (S11.out.up hB))
  have THOP := Lib.hid (HOP.out.up hB)
  clear HOP
  have HOP := THOP
  clear THOP
  clear hB S11
  go_upto_region 11 with (fail)
  have hbb := Blk.new W12 38 #[.bool bi, .int .i64 bc]
  have hB := below_box W12 (.cells #[.bool bi, .int .i64 bc] 38)
  generalize W12.alloc (.cells #[.bool bi, .int .i64 bc] 38) = W13 at *
  have hbl := hbb.lt
  obtain ⟨gb, hgb⟩ : ∃ gb, gb = W12.heap.size := ⟨_, rfl⟩
  rw [← hgb] at hbb hbl ⊢
  have HBB := Lib.hid (show FB W13 gb 38 2 (fun k => if k = 0 then .bool bi else .int .i64 bc) from hbb)
  have S13 := Lib.hid (show St w W13 [(gj, mergeZ joinT (some M) (some O)), (go, some O), (g1, some topT), (gz, some M), (g0, some topT)] from (S12.out.up hB))
  have THOP := Lib.hid (HOP.out.up hB)
  clear HOP
  have HOP := THOP
  clear THOP
  clear hB S12 hgb hbb hbl
  go_wp2_with fail
  go_at_call 41
  refine (Reach_any _ gz M _ q (S13.out.2 (gz, some M) (by simp)) HQ6.out).mono ?_
  rintro e W14 ⟨gr, rfl, hg, hv, hB⟩
  have HVgr := Lib.hid hv
  have S14 := Lib.hid (show St w W14 [(gj, mergeZ joinT (some M) (some O)), (go, some O), (g1, some topT), (gz, some M), (g0, some topT)] from (S13.out.up hB))
  have THOP := Lib.hid (HOP.out.up hB)
  clear HOP
  have HOP := THOP
  clear THOP
  have THBB := Lib.hid (HBB.out.up hB)
  clear HBB
  have HBB := THBB
  clear THBB
  clear hB S13 hg hv
  go_wp2_with fail
  go_at_call 41
  refine (Reach_any _ go O _ q (S14.out.2 (go, some O) (by simp)) HQ6.out).mono ?_
  rintro e W15 ⟨gs, rfl, hg, hv, hB⟩
  have HVgs := Lib.hid hv
  have S15 := Lib.hid (show St w W15 [(gj, mergeZ joinT (some M) (some O)), (go, some O), (g1, some topT), (gz, some M), (g0, some topT)] from (S14.out.up hB))
  have THOP := Lib.hid (HOP.out.up hB)
  clear HOP
  have HOP := THOP
  clear THOP
  have THBB := Lib.hid (HBB.out.up hB)
  clear HBB
  have HBB := THBB
  clear THBB
  have THVgr := Lib.hid (HVgr.out.up hB)
  clear HVgr
  have HVgr := THVgr
  clear THVgr
  clear hB S14 hg hv
  go_wp2_with fail
  go_at_call 13
  refine (meets_yes _ gj (joinT M O) (S15.out.2 (gj, mergeZ joinT (some M) (some O)) (by simp)) gr (reachV M q) HVgr.out (HTI.out.toTight.i64r q) (meets_join (HTI.out.toTight.meets q) HTI.out.ok HTO.out.ok)).mono ?_
  rintro e W16 ⟨rfl, hB⟩
  have S16 := Lib.hid (show St w W16 [(gj, mergeZ joinT (some M) (some O)), (go, some O), (g1, some topT), (gz, some M), (g0, some topT)] from (S15.out.up hB))
  have THOP := Lib.hid (HOP.out.up hB)
  clear HOP
  have HOP := THOP
  clear THOP
  have THBB := Lib.hid (HBB.out.up hB)
  clear HBB
  have HBB := THBB
  clear THBB
  have THVgr := Lib.hid (HVgr.out.up hB)
  clear HVgr
  have HVgr := THVgr
  clear THVgr
  have THVgs := Lib.hid (HVgs.out.up hB)
  clear HVgs
  have HVgs := THVgs
  clear THVgs
  clear hB S15
  go_wp2_with fail
  go_at_call 13
  refine (meets_yes _ gj (joinT M O) (S16.out.2 (gj, mergeZ joinT (some M) (some O)) (by simp)) gs (reachV O q) HVgs.out (HTO.out.i64r q) (meets_join2 (HTO.out.meets q) HTI.out.ok HTO.out.ok)).mono ?_
  rintro e W17 ⟨rfl, hB⟩
  have S17 := Lib.hid (show St w W17 [(gj, mergeZ joinT (some M) (some O)), (go, some O), (g1, some topT), (gz, some M), (g0, some topT)] from (S16.out.up hB))
  have THOP := Lib.hid (HOP.out.up hB)
  clear HOP
  have HOP := THOP
  clear THOP
  have THBB := Lib.hid (HBB.out.up hB)
  clear HBB
  have HBB := THBB
  clear THBB
  have THVgr := Lib.hid (HVgr.out.up hB)
  clear HVgr
  have HVgr := THVgr
  clear THVgr
  have THVgs := Lib.hid (HVgs.out.up hB)
  clear HVgs
  have HVgs := THVgs
  clear THVgs
  clear hB S16
  go_upto_region 15 with (fail)
  have y0 := FB.cell HBB.out 0 (by omega)
  have y1 := FB.cell HBB.out 1 (by omega)
  simp only [if_true, Nat.one_ne_zero, if_false] at y0 y1
  have r0 := HVgr.out.at_ p HP6.out
  have r1 := HVgr.out.at_ q HQ6.out
  have s0 := HVgs.out.at_ p HP6.out
  have s1 := HVgs.out.at_ q HQ6.out
  have e0 := reachV_rng HTI.out.toTight q p HP6.out
  have e1 := reachV_rng HTI.out.toTight q q HQ6.out
  have e2 := reachV_rng HTO.out q p HP6.out
  have e3 := reachV_rng HTO.out q q HQ6.out
  have hjw := HJW.out
  rw [HBV.out] at hjw
  clear HJW HBV
  generalize joinT M O p q = jv at hjw
  generalize reachV M q p = rp at *
  generalize reachV M q q = rq at *
  generalize reachV O q p = sp at *
  generalize reachV O q q = sq at *
  obtain ⟨e01, e02⟩ := e0
  obtain ⟨e11, e12⟩ := e1
  obtain ⟨e21, e22⟩ := e2
  obtain ⟨e31, e32⟩ := e3
  simp only [Value.agg.injEq, Array.mk.injEq, List.cons.injEq, Value.bool.injEq, Value.int.injEq, true_and, and_true] at hjw
  obtain ⟨⟨g1, g2⟩, g3⟩ := hjw
  have q1 : (rp - rq == bc) = true := by rw [beq_iff_eq]; omega
  have q2 : (rp - rq != bc) = false := by rw [bne_eq_false_iff_eq]; omega
  subst g1
  clear g2 g3 jv
  have hq15 : ∀ (nn : Nat), St w (W17.drewN nn) [(gj, mergeZ joinT (some M) (some O)), (go, some O), (g1, some topT), (gz, some M), (g0, some topT)] := fun nn => S17.out.up (below_drewN' (Below.refl _ _) nn)
  have HQ15 := Lib.hid hq15
  have HOQ := Lib.hid (fun nn => HOP.out.up (below_drewN' (Below.refl W17.heap.size W17) nn))
  clear hq15
  all_goals
    go_quiet (fail)
    go_upto_region 17 with (fail)
    obtain ⟨WQ, hWQ⟩ : ∃ WQ, WQ = W17.drewN nq := ⟨_, rfl⟩
    rw [← hWQ]
    have S18 := Lib.hid (show St w WQ [(gj, mergeZ joinT (some M) (some O)), (go, some O), (g1, some topT), (gz, some M), (g0, some topT)] by rw [hWQ]; exact HQ15.out nq)
    have HOPn := Lib.hid (show OpAt2 WQ bx X (.slice A8 n8 c8) (.slice A9 n9 c9) by rw [hWQ]; exact HOQ.out nq)
    clear hWQ y0 y1 r0 r1 s0 s1 HQ15 HOQ S17 HOP HBB HVgr HVgs
    have HOP := HOPn
    clear HOPn
    have v8 := HOP.out.u
    go_wp2_with fail
    go_at_call 43
    refine (near_any _ A8 n8 c8 L8 L8L.out (I8.out.below S18.out.1)).mono ?_
    rintro e W19 ⟨gu, rfl, hg, hv, hB⟩
    have HBgu := Lib.hid hv
    clear v8
    have S19 := Lib.hid (show St w W19 [(gj, mergeZ joinT (some M) (some O)), (go, some O), (g1, some topT), (gz, some M), (g0, some topT)] from (S18.out.up hB))
    have THOP := Lib.hid (HOP.out.up hB)
    clear HOP
    have HOP := THOP
    clear THOP
    clear hB S18 hg hv
    have v8 := HOP.out.d
    go_wp2_with fail
    go_at_call 43
    refine (near_any _ A9 n9 c9 L9 L9L.out (I9.out.below S19.out.1)).mono ?_
    rintro e W20 ⟨gd, rfl, hg, hv, hB⟩
    have HBgd := Lib.hid hv
    clear v8
    have S20 := Lib.hid (show St w W20 [(gj, mergeZ joinT (some M) (some O)), (go, some O), (g1, some topT), (gz, some M), (g0, some topT)] from (S19.out.up hB))
    have THOP := Lib.hid (HOP.out.up hB)
    clear HOP
    have HOP := THOP
    clear THOP
    have THBgu := Lib.hid (HBgu.out.up hB)
    clear HBgu
    have HBgu := THBgu
    clear THBgu
    clear hB S19 hg hv
    have v3 := HOP.out.x
    go_wp2_with fail
    go_at_call 22
    refine (place_any _ 59 _ HX.out (by omega) (by omega)).mono ?_
    rintro e w' ⟨rfl, rfl⟩
    obtain ⟨m, hm, hm59⟩ : ∃ m : Nat, X % 59 = m ∧ m < 59 := ⟨(X % 59).toNat, by omega, by omega⟩
    rw [hm]
    clear hm v3
    go_upto_region 20 with (fail)
    obtain ⟨v, hv1⟩ : ∃ v : Nat, v = m + 1 := ⟨_, rfl⟩
    rw [show (1 : Int) + (m : Int) = (v : Int) by omega]
    have HV1 := Lib.hid (show 1 ≤ v by omega)
    have HV6 := Lib.hid (show v < 60 by omega)
    have hv0 : (0 : Int) ≤ v := by omega
    have hv61 : (v : Int) < 60 := by omega
    clear hv1 hm59
    have HPS := Lib.hid (near_small v L8 L9)
    have HPZ := Lib.hid (show putZ (some M) v (othR v (nearF L8)) (othR v (nearF L9)) = if negT (putT M v (othR v (nearF L8)) (othR v (nearF L9))) then none else some (putT M v (othR v (nearF L8)) (othR v (nearF L9))) from rfl)
    go_wp2_with fail
    go_at_call 16
    refine (Put_law _ gz v gu gd (some M) (nearF L8) (nearF L9) (S20.out.2 (gz, some M) (by simp)) HV6.out HV1.out HBgu.out HBgd.out (fun q hq hqx h => near_rngB h) (fun q hq hqx h => near_rngB h) HPS.out.ok).mono ?_
    rintro e W21 ⟨gn, rfl, hz, hB⟩
    rw [HPZ.out] at hz
    cases hneg : negT (putT M v (othR v (nearF L8)) (othR v (nearF L9)))
    · rw [hneg] at hz
      replace hz : ZoneAt W21 gn (some (putT M v (othR v (nearF L8)) (othR v (nearF L9)))) := hz
      have HTN := Lib.hid (HTI.out.put HV6.out HPS.out hneg)
      have HEX := Lib.hid (ext_put HTI.out HV1.out HV6.out HPS.out hneg q)
      have HUP := Lib.hid (fun k (hk : k < 60) (hkv : k ≠ v) => put_up (M := M) HPS.out.ok hk hkv (HTI.out.diag k hk))
      have HDN := Lib.hid (fun k (hk : k < 60) (hkv : k ≠ v) => put_down (M := M) HPS.out.ok hk hkv (HTI.out.diag k hk))
      clear hneg HPZ
      generalize putT M v (othR v (nearF L8)) (othR v (nearF L9)) = N at *
      have S21 := Lib.hid (show St w W21 [(gn, some N), (gj, mergeZ joinT (some M) (some O)), (go, some O), (g1, some topT), (gz, some M), (g0, some topT)] from (S20.out.up hB).add hz)
      have THOP := Lib.hid (HOP.out.up hB)
      clear HOP
      have HOP := THOP
      clear THOP
      have THBgu := Lib.hid (HBgu.out.up hB)
      clear HBgu
      have HBgu := THBgu
      clear THBgu
      have THBgd := Lib.hid (HBgd.out.up hB)
      clear HBgd
      have HBgd := THBgd
      clear THBgd
      clear hB S20 hz
      go_wp2_with fail
      go_at_call 24
      refine (Empty_any _ gn (some N) (S21.out.2 (gn, some N) (by simp))).mono ?_
      rintro e W22 ⟨rfl, rfl⟩
      rw [show voidB (some N) = false from rfl]
      have S22 := S21
      clear S21
      go_wp2_with fail
      go_at_call 41
      refine (Reach_any _ gn N _ q (S22.out.2 (gn, some N) (by simp)) HQ6.out).mono ?_
      rintro e W23 ⟨gt, rfl, hg, hv, hB⟩
      have HVgt := Lib.hid hv
      have S23 := Lib.hid (show St w W23 [(gn, some N), (gj, mergeZ joinT (some M) (some O)), (go, some O), (g1, some topT), (gz, some M), (g0, some topT)] from (S22.out.up hB))
      have THOP := Lib.hid (HOP.out.up hB)
      clear HOP
      have HOP := THOP
      clear THOP
      have THBgu := Lib.hid (HBgu.out.up hB)
      clear HBgu
      have HBgu := THBgu
      clear THBgu
      have THBgd := Lib.hid (HBgd.out.up hB)
      clear HBgd
      have HBgd := THBgd
      clear THBgd
      clear hB S22 hg hv
      have HTM := Lib.hid (HTN.out.meets q)
      have HTR := Lib.hid (reachV_rng HTN.out q)
      have HTJ := Lib.hid (HTN.out.i64r q)
      generalize reachV N q = b at *
      have HCU := Lib.hid (show ∀ k, k < 60 → k ≠ v → (nearF L8 k).1 = true → b v - b k ≤ (nearF L8 k).2 from fun k hk hkv h => by
        have h1 := HUP.out k hk hkv
        rw [oth_at2 hkv h] at h1
        have h2 := nearF_rng h
        have := HTM.out v k HV6.out hk (by omega)
        omega)
      have HCD := Lib.hid (show ∀ k, k < 60 → k ≠ v → (nearF L9 k).1 = true → b k - b v ≤ (nearF L9 k).2 from fun k hk hkv h => by
        have h1 := HDN.out k hk hkv
        rw [oth_at2 hkv h] at h1
        have h2 := nearF_rng h
        have := HTM.out k v hk HV6.out (by omega)
        omega)
      clear HUP HDN
      go_wp2_with fail
      go_loopw [25] (fun i wr => ∃ k : Nat, k ≤ 60 ∧ i = .int .i64 k ∧ Below W23.heap.size W23 wr) (fun i _ => (60 - intOf i).toNat)
      case atStart => exact ⟨0, by omega, rfl, Below.refl _ _⟩
      case round =>
        obtain ⟨k, hk, rfl, hB⟩ := hrel
        have hk0 : (0 : Int) ≤ k := by omega
        by_cases hlt : k < 60
        · have hk6 : (k : Int) < 60 := by omega
          have HKT := Lib.hid hlt
          have HB := Lib.hid hB
          have a0 := (BvAt.up HBgu.out hB).is_ k hlt
          have a1 := (BvAt.up HBgu.out hB).c_ k hlt
          have d0 := (BvAt.up HBgd.out hB).is_ k hlt
          have d1 := (BvAt.up HBgd.out hB).c_ k hlt
          have b0 := (HVgt.out.up hB).at_ k hlt
          have b1 := (HVgt.out.up hB).at_ v HV6.out
          have hcu := HCU.out k hlt
          have hcd := HCD.out k hlt
          have rk := HTR.out k hlt
          have rv := HTR.out v HV6.out
          clear hB hlt
          generalize (nearF L8 k).1 = ui at *
          generalize (nearF L8 k).2 = uc at *
          generalize (nearF L9 k).1 = di at *
          generalize (nearF L9 k).2 = dc at *
          generalize hbk : b k = bk at *
          generalize hbv : b v = bw at *
          obtain ⟨rk1, rk2⟩ := rk
          obtain ⟨rv1, rv2⟩ := rv
          have hway : ((k : Int) != (v : Int)) = false ∧ ((k : Int) == (v : Int)) = true ∨ (((k : Int) != (v : Int)) = true ∧ ((k : Int) == (v : Int)) = false ∧ (ui = false ∨ (ui = true ∧ decide (uc < bw - bk) = false)) ∧ (di = false ∨ (di = true ∧ decide (dc < bk - bw) = false))) := by
            by_cases e : k = v
            · exact .inl ⟨by rw [e]; exact bne_self_eq_false _, by rw [e]; exact beq_self_eq_true _⟩
            · refine .inr ⟨by rw [bne_iff_ne]; omega, by rw [beq_eq_false_iff_ne]; omega, ?_, ?_⟩
              · cases ui
                · exact .inl rfl
                · exact .inr ⟨rfl, decide_eq_false (by have := hcu e rfl; omega)⟩
              · cases di
                · exact .inl rfl
                · exact .inr ⟨rfl, decide_eq_false (by have := hcd e rfl; omega)⟩
          clear hcu hcd hbk hbv
          rcases hway with ⟨t1, t2⟩ | ⟨t1, t2, hu, hd⟩
          · go_upto_region 29 with (fail)
            go_quiet (fail)
            have HB5 := Lib.hid (below_drewN' HB.out nq)
            go_wp2_with fail
            go_roundw
            case rel => exact ⟨k + 1, by have := HKT.out; omega, by go_num, HB5.out⟩
            case measure => simp [intOf]; omega
          · go_upto_region 29 with (fail)
            rcases hu with rfl | ⟨rfl, tu⟩ <;> rcases hd with rfl | ⟨rfl, td⟩
            all_goals
              go_quiet (fail)
              have HB5 := Lib.hid (below_drewN' HB.out nq)
              go_wp2_with fail
              go_roundw
              case rel => exact ⟨k + 1, by have := HKT.out; omega, by go_num, HB5.out⟩
              case measure => simp [intOf]; omega
        · obtain rfl : k = 60 := by omega
          have SE := Lib.hid (S23.out.up hB)
          have HVe := Lib.hid (HVgt.out.up hB)
          clear hB
          go_wp2_with fail
          go_at_call 42
          have hbox := below_box wr (.cells #[.int .i64 v] 3)
          refine (extend_any _ gz gt M b (some ⟨wr.heap.size, 0, none⟩) 1 1 [(v : Int)] ((SE.out.up hbox).2 (gz, some M) (by simp)) (HVe.out.up hbox) rfl (by omega) (nums_new wr v _) HTI.out.toTight HEX.out).mono ?_
          rintro e We ⟨ge2, rfl, hB⟩
          have hBe := hbox.trans (hB.mono hbox.size)
          have SF := Lib.hid (SE.out.up hBe)
          have HVf := Lib.hid (HVe.out.up hBe)
          clear hbox hB hBe SE HVe
          go_wp2_with fail
          go_at_call 13
          refine (meets_yes _ gn N (SF.out.2 (gn, some N) (by simp)) gt b HVf.out HTJ.out HTM.out).mono ?_
          rintro e WY ⟨rfl, hB⟩
          have SY := Lib.hid (SF.out.1.trans (hB.mono SF.out.1.size))
          clear hB
          go_wp2_with fail
          go_at_call 14
          refine (awake_any _).mono ?_
          rintro e WZ ⟨rfl, hB⟩
          have SZ := Lib.hid (SY.out.trans (hB.mono SY.out.size))
          clear hB
          go_wp2_with fail
          go_ret
          exact ⟨rfl, SZ.out⟩
    · rw [hneg] at hz
      replace hz : ZoneAt W21 gn none := hz
      clear hneg HPZ
      have S21 := Lib.hid (show St w W21 [(gn, none), (gj, mergeZ joinT (some M) (some O)), (go, some O), (g1, some topT), (gz, some M), (g0, some topT)] from (S20.out.up hB).add hz)
      clear hB S20 hz
      go_wp2_with fail
      go_at_call 24
      refine (Empty_any _ gn none (S21.out.2 (gn, none) (by simp))).mono ?_
      rintro e W22 ⟨rfl, rfl⟩
      rw [show voidB none = true from rfl]
      have S22 := S21
      clear S21
      go_wp2_with fail
      go_at_call 14
      refine (awake_any _).mono ?_
      rintro e W23 ⟨rfl, hB⟩
      have S23 := Lib.hid (show St w W23 [(gn, none), (gj, mergeZ joinT (some M) (some O)), (go, some O), (g1, some topT), (gz, some M), (g0, some topT)] from (S22.out.up hB))
      clear hB S22
      go_wp2_with fail
      go_ret
      exact ⟨rfl, S23.out.1⟩
set_option maxHeartbeats 6000000 in
theorem zoneRenews_w2 (w : World) (A0 : Option Addr) (n0 c0 : Nat) (L0 : List Con) (i0 : ConIn w A0 n0 c0 L0) (A1 : Option Addr) (n1 c1 : Nat) (L1 : List Con) (i1 : ConIn w A1 n1 c1 L1) (k0 k1 k2 X Y C : Int) (hX : I64 X) (A6 A7 A8 A9 : Option Addr) (n6 c6 n7 c7 n8 c8 n9 c9 : Nat) (L8 : List (Bool × Int)) (l8 : L8.length = n8) (i8 : BsAt w A8 L8) (L9 : List (Bool × Int)) (l9 : L9.length = n9) (i9 : BsAt w A9 L9) (x3 : Int) (b3 : I64 x3) (x4 : Int) (b4 : I64 x4) (M : Tab) (hv : withZ (some topT) (smallL L0) = some M) (O : Tab) (ho : withZ (some topT) (smallL L1) = some O) (p q : Nat) (hp : x3 % 60 = p) (hp6 : p < 60) (hq : x4 % 60 = q) (hq6 : q < 60) (hjw0 : bv (bnd (joinT M O p q)) = .agg #[.bool true, .int .i64 (joinT M O p q)] ∧ reachV M q p - reachV M q q ≠ joinT M O p q ∧ reachV O q p - reachV O q q = joinT M O p q) :
    Calls Try.prog 7 #[.slice A0 n0 c0, .slice A1 n1 c1, .agg #[.int .i64 k0, .int .i64 k1, .int .i64 k2, .int .i64 X, .int .i64 Y, .int .i64 C, .slice A6 n6 c6, .slice A7 n7 c7, .slice A8 n8 c8, .slice A9 n9 c9], .int .i64 x3, .int .i64 x4] w (True_ w) := by
  have HTI := Lib.hid (Cl.tight' (small_cl hv))
  have HTO := Lib.hid (Cl.tight (small_cl ho))
  have HV := Lib.hid hv
  have HO := Lib.hid ho
  have HP := Lib.hid hp
  have HQ := Lib.hid hq
  have HQ6 := Lib.hid hq6
  have HP6 := Lib.hid hp6
  have HJW := Lib.hid hjw0
  clear hjw0
  have hp0 : (0 : Int) ≤ p := by omega
  have hp61 : (p : Int) < 60 := by omega
  have hq0 : (0 : Int) ≤ q := by omega
  have hq61 : (q : Int) < 60 := by omega
  clear hv ho hp hq hq6 hp6
  have I0 := Lib.hid i0
  have I1 := Lib.hid i1
  have HX := Lib.hid hX
  have B3 := Lib.hid b3
  have B4 := Lib.hid b4
  have L8L := Lib.hid l8
  have L9L := Lib.hid l9
  have I8 := Lib.hid i8
  have I9 := Lib.hid i9
  have HLS0 := Lib.hid (show (smallL L0).length ≤ 7000000000000 by have : (smallL L0).length ≤ L0.length := List.length_filter_le _ _; have := i0.len; have := i0.reach; omega)
  have HWS0 := Lib.hid (wrongL_small L0)
  have HLS1 := Lib.hid (show (smallL L1).length ≤ 7000000000000 by have : (smallL L1).length ≤ L1.length := List.length_filter_le _ _; have := i1.len; have := i1.reach; omega)
  have HWS1 := Lib.hid (wrongL_small L1)
  clear i0 i1 hX b3 b4 l8 l9 i8 i9
  obtain ⟨w1, hw1⟩ : ∃ w1, w1 = w.alloc (.cells #[.int .i64 k0, .int .i64 k1, .int .i64 k2, .int .i64 X, .int .i64 Y, .int .i64 C, .slice A6 n6 c6, .slice A7 n7 c7, .slice A8 n8 c8, .slice A9 n9 c9] 57) := ⟨_, rfl⟩
  have HOP := Lib.hid (show OpAt2 w1 w.heap.size X (.slice A8 n8 c8) (.slice A9 n9 c9) by rw [hw1]; exact ⟨by simp, by simp [go_sem], by simp [go_sem], by simp [go_sem]⟩)
  have HBx := Lib.hid (show Below w.heap.size w w1 by rw [hw1]; exact below_box w _)
  have HW1 := Lib.hid hw1
  clear hw1
  go_enter Try.func7, Try.ntmps7
  go_upto_region 1 with (fail)
  rw [← HW1.out]
  clear HW1
  obtain ⟨bx, hbx⟩ : ∃ bx, bx = w.heap.size := ⟨_, rfl⟩
  rw [← hbx] at HOP ⊢
  have HBX := Lib.hid hbx
  clear hbx
  have S0 := Lib.hid (show St w w1 [] from (St.start w).up HBx.out)
  clear HBx
  go_wp2_with fail
  go_at_call 9
  refine (New_law _).mono ?_
  rintro e W1 ⟨g0, rfl, hg, hz, hB⟩
  have S1 := Lib.hid (show St w W1 [(g0, some topT)] from (S0.out.up hB).add hz)
  have THOP := Lib.hid (HOP.out.up hB)
  clear HOP
  have HOP := THOP
  clear THOP
  clear hB S0 hz hg
  go_wp2_with fail
  go_at_call 19
  refine (small_any _ A0 n0 c0 L0 (lw_conb I0.out S1.out.1)).mono ?_
  rintro e W2 ⟨As, ns, cs, rfl, hLs, hcs, hAs, hB⟩
  have HAs1 := Lib.hid hAs
  have HNs1 := Lib.hid hLs
  have S2 := Lib.hid (show St w W2 [(g0, some topT)] from (S1.out.up hB))
  have THOP := Lib.hid (HOP.out.up hB)
  clear HOP
  have HOP := THOP
  clear THOP
  clear hB S1 hAs hLs hcs
  go_wp2_with fail
  go_at_call 11
  refine (cons_law _ As ns cs (smallL L0) (HNs1.out) (by have := HNs1.out; have := HLS0.out; omega) HAs1.out).mono ?_
  rintro e W3 ⟨Al2, nl2, cl2, rfl, hL2, hc2, hA2, hB⟩
  have HA2 := Lib.hid hA2
  have HL102 := Lib.hid hL2
  have S3 := Lib.hid (show St w W3 [(g0, some topT)] from (S2.out.up hB))
  have THOP := Lib.hid (HOP.out.up hB)
  clear HOP
  have HOP := THOP
  clear THOP
  clear hB S2 hA2 hL2 hc2
  go_wp2_with fail
  go_at_call 10
  refine (With_law _ g0 (some topT) Al2 nl2 cl2 (smallL L0) (S3.out.2 (g0, some topT) (by simp)) HL102.out (by have := HL102.out; have := HLS0.out; omega) HA2.out HWS0.out).mono ?_
  rintro e W4 ⟨gz, rfl, hz, hB⟩
  rw [HV.out] at hz
  have S4 := Lib.hid (show St w W4 [(gz, some M), (g0, some topT)] from (S3.out.up hB).add hz)
  have THOP := Lib.hid (HOP.out.up hB)
  clear HOP
  have HOP := THOP
  clear THOP
  clear hB S3 hz HA2 HL102
  go_wp2_with fail
  go_at_call 9
  refine (New_law _).mono ?_
  rintro e W5 ⟨g1, rfl, hg, hz, hB⟩
  have S5 := Lib.hid (show St w W5 [(g1, some topT), (gz, some M), (g0, some topT)] from (S4.out.up hB).add hz)
  have THOP := Lib.hid (HOP.out.up hB)
  clear HOP
  have HOP := THOP
  clear THOP
  clear hB S4 hz hg
  go_wp2_with fail
  go_at_call 19
  refine (small_any _ A1 n1 c1 L1 (lw_conb I1.out S5.out.1)).mono ?_
  rintro e W6 ⟨As, ns, cs, rfl, hLs, hcs, hAs, hB⟩
  have HAs5 := Lib.hid hAs
  have HNs5 := Lib.hid hLs
  have S6 := Lib.hid (show St w W6 [(g1, some topT), (gz, some M), (g0, some topT)] from (S5.out.up hB))
  have THOP := Lib.hid (HOP.out.up hB)
  clear HOP
  have HOP := THOP
  clear THOP
  clear hB S5 hAs hLs hcs
  go_wp2_with fail
  go_at_call 11
  refine (cons_law _ As ns cs (smallL L1) (HNs5.out) (by have := HNs5.out; have := HLS1.out; omega) HAs5.out).mono ?_
  rintro e W7 ⟨Al6, nl6, cl6, rfl, hL6, hc6, hA6, hB⟩
  have HA6 := Lib.hid hA6
  have HL106 := Lib.hid hL6
  have S7 := Lib.hid (show St w W7 [(g1, some topT), (gz, some M), (g0, some topT)] from (S6.out.up hB))
  have THOP := Lib.hid (HOP.out.up hB)
  clear HOP
  have HOP := THOP
  clear THOP
  clear hB S6 hA6 hL6 hc6
  go_wp2_with fail
  go_at_call 10
  refine (With_law _ g1 (some topT) Al6 nl6 cl6 (smallL L1) (S7.out.2 (g1, some topT) (by simp)) HL106.out (by have := HL106.out; have := HLS1.out; omega) HA6.out HWS1.out).mono ?_
  rintro e W8 ⟨go, rfl, hz, hB⟩
  rw [HO.out] at hz
  have S8 := Lib.hid (show St w W8 [(go, some O), (g1, some topT), (gz, some M), (g0, some topT)] from (S7.out.up hB).add hz)
  have THOP := Lib.hid (HOP.out.up hB)
  clear HOP
  have HOP := THOP
  clear THOP
  clear hB S7 hz HA6 HL106
  go_wp2_with fail
  go_at_call 24
  refine (Empty_any _ gz (some M) (S8.out.2 (gz, some M) (by simp))).mono ?_
  rintro e W9 ⟨rfl, rfl⟩
  rw [show voidB (some M) = false from rfl]
  have S9 := S8
  clear S8
  go_wp2_with fail
  go_at_call 24
  refine (Empty_any _ go (some O) (S9.out.2 (go, some O) (by simp))).mono ?_
  rintro e W10 ⟨rfl, rfl⟩
  rw [show voidB (some O) = false from rfl]
  have S10 := S9
  clear S9
  go_wp2_with fail
  go_at_call 22
  refine (place_any _ 60 _ B3.out (by omega) (by omega)).mono ?_
  rintro e w' ⟨rfl, rfl⟩
  rw [HP.out]
  go_wp2_with fail
  go_at_call 22
  refine (place_any _ 60 _ B4.out (by omega) (by omega)).mono ?_
  rintro e w' ⟨rfl, rfl⟩
  rw [HQ.out]
  go_wp2_with fail
  go_at_call 38
  refine (Join_any _ gz go (some M) (some O) (S10.out.2 (gz, some M) (by simp)) (S10.out.2 (go, some O) (by simp))).mono ?_
  rintro e W11 ⟨gj, rfl, hg, hz, hB⟩
  have S11 := Lib.hid (show St w W11 [(gj, mergeZ joinT (some M) (some O)), (go, some O), (g1, some topT), (gz, some M), (g0, some topT)] from (S10.out.up hB).add hz)
  have THOP := Lib.hid (HOP.out.up hB)
  clear HOP
  have HOP := THOP
  clear THOP
  clear hB S10 hz hg
  go_wp2_with fail
  go_at_call 18
  refine (Bound_at _ gj p q (joinT M O) (S11.out.2 (gj, mergeZ joinT (some M) (some O)) (by simp)) HP6.out HQ6.out).mono ?_
  rintro e W12 ⟨rfl, hB⟩
  obtain ⟨bi, bc, hbv⟩ := bv_form2 (bnd (joinT M O p q))
  rw [hbv]
  have HBV := Lib.hid hbv
  clear hbv
  have S12 := Lib.hid (show St w W12 [(gj, mergeZ joinT (some M) (some O)), (go, some O), (g1, some topT), (gz, some M), (g0, some topT)] from (S11.out.up hB))
  have THOP := Lib.hid (HOP.out.up hB)
  clear HOP
  have HOP := THOP
  clear THOP
  clear hB S11
  go_upto_region 11 with (fail)
  have hbb := Blk.new W12 38 #[.bool bi, .int .i64 bc]
  have hB := below_box W12 (.cells #[.bool bi, .int .i64 bc] 38)
  generalize W12.alloc (.cells #[.bool bi, .int .i64 bc] 38) = W13 at *
  have hbl := hbb.lt
  obtain ⟨gb, hgb⟩ : ∃ gb, gb = W12.heap.size := ⟨_, rfl⟩
  rw [← hgb] at hbb hbl ⊢
  have HBB := Lib.hid (show FB W13 gb 38 2 (fun k => if k = 0 then .bool bi else .int .i64 bc) from hbb)
  have S13 := Lib.hid (show St w W13 [(gj, mergeZ joinT (some M) (some O)), (go, some O), (g1, some topT), (gz, some M), (g0, some topT)] from (S12.out.up hB))
  have THOP := Lib.hid (HOP.out.up hB)
  clear HOP
  have HOP := THOP
  clear THOP
  clear hB S12 hgb hbb hbl
  go_wp2_with fail
  go_at_call 41
  refine (Reach_any _ gz M _ q (S13.out.2 (gz, some M) (by simp)) HQ6.out).mono ?_
  rintro e W14 ⟨gr, rfl, hg, hv, hB⟩
  have HVgr := Lib.hid hv
  have S14 := Lib.hid (show St w W14 [(gj, mergeZ joinT (some M) (some O)), (go, some O), (g1, some topT), (gz, some M), (g0, some topT)] from (S13.out.up hB))
  have THOP := Lib.hid (HOP.out.up hB)
  clear HOP
  have HOP := THOP
  clear THOP
  have THBB := Lib.hid (HBB.out.up hB)
  clear HBB
  have HBB := THBB
  clear THBB
  clear hB S13 hg hv
  go_wp2_with fail
  go_at_call 41
  refine (Reach_any _ go O _ q (S14.out.2 (go, some O) (by simp)) HQ6.out).mono ?_
  rintro e W15 ⟨gs, rfl, hg, hv, hB⟩
  have HVgs := Lib.hid hv
  have S15 := Lib.hid (show St w W15 [(gj, mergeZ joinT (some M) (some O)), (go, some O), (g1, some topT), (gz, some M), (g0, some topT)] from (S14.out.up hB))
  have THOP := Lib.hid (HOP.out.up hB)
  clear HOP
  have HOP := THOP
  clear THOP
  have THBB := Lib.hid (HBB.out.up hB)
  clear HBB
  have HBB := THBB
  clear THBB
  have THVgr := Lib.hid (HVgr.out.up hB)
  clear HVgr
  have HVgr := THVgr
  clear THVgr
  clear hB S14 hg hv
  go_wp2_with fail
  go_at_call 13
  refine (meets_yes _ gj (joinT M O) (S15.out.2 (gj, mergeZ joinT (some M) (some O)) (by simp)) gr (reachV M q) HVgr.out (HTI.out.toTight.i64r q) (meets_join (HTI.out.toTight.meets q) HTI.out.ok HTO.out.ok)).mono ?_
  rintro e W16 ⟨rfl, hB⟩
  have S16 := Lib.hid (show St w W16 [(gj, mergeZ joinT (some M) (some O)), (go, some O), (g1, some topT), (gz, some M), (g0, some topT)] from (S15.out.up hB))
  have THOP := Lib.hid (HOP.out.up hB)
  clear HOP
  have HOP := THOP
  clear THOP
  have THBB := Lib.hid (HBB.out.up hB)
  clear HBB
  have HBB := THBB
  clear THBB
  have THVgr := Lib.hid (HVgr.out.up hB)
  clear HVgr
  have HVgr := THVgr
  clear THVgr
  have THVgs := Lib.hid (HVgs.out.up hB)
  clear HVgs
  have HVgs := THVgs
  clear THVgs
  clear hB S15
  go_wp2_with fail
  go_at_call 13
  refine (meets_yes _ gj (joinT M O) (S16.out.2 (gj, mergeZ joinT (some M) (some O)) (by simp)) gs (reachV O q) HVgs.out (HTO.out.i64r q) (meets_join2 (HTO.out.meets q) HTI.out.ok HTO.out.ok)).mono ?_
  rintro e W17 ⟨rfl, hB⟩
  have S17 := Lib.hid (show St w W17 [(gj, mergeZ joinT (some M) (some O)), (go, some O), (g1, some topT), (gz, some M), (g0, some topT)] from (S16.out.up hB))
  have THOP := Lib.hid (HOP.out.up hB)
  clear HOP
  have HOP := THOP
  clear THOP
  have THBB := Lib.hid (HBB.out.up hB)
  clear HBB
  have HBB := THBB
  clear THBB
  have THVgr := Lib.hid (HVgr.out.up hB)
  clear HVgr
  have HVgr := THVgr
  clear THVgr
  have THVgs := Lib.hid (HVgs.out.up hB)
  clear HVgs
  have HVgs := THVgs
  clear THVgs
  clear hB S16
  go_upto_region 15 with (fail)
  have y0 := FB.cell HBB.out 0 (by omega)
  have y1 := FB.cell HBB.out 1 (by omega)
  simp only [if_true, Nat.one_ne_zero, if_false] at y0 y1
  have r0 := HVgr.out.at_ p HP6.out
  have r1 := HVgr.out.at_ q HQ6.out
  have s0 := HVgs.out.at_ p HP6.out
  have s1 := HVgs.out.at_ q HQ6.out
  have e0 := reachV_rng HTI.out.toTight q p HP6.out
  have e1 := reachV_rng HTI.out.toTight q q HQ6.out
  have e2 := reachV_rng HTO.out q p HP6.out
  have e3 := reachV_rng HTO.out q q HQ6.out
  have hjw := HJW.out
  rw [HBV.out] at hjw
  clear HJW HBV
  generalize joinT M O p q = jv at hjw
  generalize reachV M q p = rp at *
  generalize reachV M q q = rq at *
  generalize reachV O q p = sp at *
  generalize reachV O q q = sq at *
  obtain ⟨e01, e02⟩ := e0
  obtain ⟨e11, e12⟩ := e1
  obtain ⟨e21, e22⟩ := e2
  obtain ⟨e31, e32⟩ := e3
  simp only [Value.agg.injEq, Array.mk.injEq, List.cons.injEq, Value.bool.injEq, Value.int.injEq, true_and, and_true] at hjw
  obtain ⟨⟨g1, g2⟩, g3, g4⟩ := hjw
  have q1 : (rp - rq == bc) = false := by rw [beq_eq_false_iff_ne]; omega
  have q2 : (rp - rq != bc) = true := by rw [bne_iff_ne]; omega
  have q3 : (sp - sq == bc) = true := by rw [beq_iff_eq]; omega
  have q4 : (sp - sq != bc) = false := by rw [bne_eq_false_iff_eq]; omega
  subst g1
  clear g2 g3 g4 jv
  have hq15 : ∀ (nn : Nat), St w (W17.drewN nn) [(gj, mergeZ joinT (some M) (some O)), (go, some O), (g1, some topT), (gz, some M), (g0, some topT)] := fun nn => S17.out.up (below_drewN' (Below.refl _ _) nn)
  have HQ15 := Lib.hid hq15
  have HOQ := Lib.hid (fun nn => HOP.out.up (below_drewN' (Below.refl W17.heap.size W17) nn))
  clear hq15
  all_goals
    go_quiet (fail)
    go_upto_region 17 with (fail)
    obtain ⟨WQ, hWQ⟩ : ∃ WQ, WQ = W17.drewN nq := ⟨_, rfl⟩
    rw [← hWQ]
    have S18 := Lib.hid (show St w WQ [(gj, mergeZ joinT (some M) (some O)), (go, some O), (g1, some topT), (gz, some M), (g0, some topT)] by rw [hWQ]; exact HQ15.out nq)
    have HOPn := Lib.hid (show OpAt2 WQ bx X (.slice A8 n8 c8) (.slice A9 n9 c9) by rw [hWQ]; exact HOQ.out nq)
    clear hWQ y0 y1 r0 r1 s0 s1 HQ15 HOQ S17 HOP HBB HVgr HVgs
    have HOP := HOPn
    clear HOPn
    have v8 := HOP.out.u
    go_wp2_with fail
    go_at_call 43
    refine (near_any _ A8 n8 c8 L8 L8L.out (I8.out.below S18.out.1)).mono ?_
    rintro e W19 ⟨gu, rfl, hg, hv, hB⟩
    have HBgu := Lib.hid hv
    clear v8
    have S19 := Lib.hid (show St w W19 [(gj, mergeZ joinT (some M) (some O)), (go, some O), (g1, some topT), (gz, some M), (g0, some topT)] from (S18.out.up hB))
    have THOP := Lib.hid (HOP.out.up hB)
    clear HOP
    have HOP := THOP
    clear THOP
    clear hB S18 hg hv
    have v8 := HOP.out.d
    go_wp2_with fail
    go_at_call 43
    refine (near_any _ A9 n9 c9 L9 L9L.out (I9.out.below S19.out.1)).mono ?_
    rintro e W20 ⟨gd, rfl, hg, hv, hB⟩
    have HBgd := Lib.hid hv
    clear v8
    have S20 := Lib.hid (show St w W20 [(gj, mergeZ joinT (some M) (some O)), (go, some O), (g1, some topT), (gz, some M), (g0, some topT)] from (S19.out.up hB))
    have THOP := Lib.hid (HOP.out.up hB)
    clear HOP
    have HOP := THOP
    clear THOP
    have THBgu := Lib.hid (HBgu.out.up hB)
    clear HBgu
    have HBgu := THBgu
    clear THBgu
    clear hB S19 hg hv
    have v3 := HOP.out.x
    go_wp2_with fail
    go_at_call 22
    refine (place_any _ 59 _ HX.out (by omega) (by omega)).mono ?_
    rintro e w' ⟨rfl, rfl⟩
    obtain ⟨m, hm, hm59⟩ : ∃ m : Nat, X % 59 = m ∧ m < 59 := ⟨(X % 59).toNat, by omega, by omega⟩
    rw [hm]
    clear hm v3
    go_upto_region 20 with (fail)
    obtain ⟨v, hv1⟩ : ∃ v : Nat, v = m + 1 := ⟨_, rfl⟩
    rw [show (1 : Int) + (m : Int) = (v : Int) by omega]
    have HV1 := Lib.hid (show 1 ≤ v by omega)
    have HV6 := Lib.hid (show v < 60 by omega)
    have hv0 : (0 : Int) ≤ v := by omega
    have hv61 : (v : Int) < 60 := by omega
    clear hv1 hm59
    have HPS := Lib.hid (near_small v L8 L9)
    have HPZ := Lib.hid (show putZ (some M) v (othR v (nearF L8)) (othR v (nearF L9)) = if negT (putT M v (othR v (nearF L8)) (othR v (nearF L9))) then none else some (putT M v (othR v (nearF L8)) (othR v (nearF L9))) from rfl)
    go_wp2_with fail
    go_at_call 16
    refine (Put_law _ gz v gu gd (some M) (nearF L8) (nearF L9) (S20.out.2 (gz, some M) (by simp)) HV6.out HV1.out HBgu.out HBgd.out (fun q hq hqx h => near_rngB h) (fun q hq hqx h => near_rngB h) HPS.out.ok).mono ?_
    rintro e W21 ⟨gn, rfl, hz, hB⟩
    rw [HPZ.out] at hz
    cases hneg : negT (putT M v (othR v (nearF L8)) (othR v (nearF L9)))
    · rw [hneg] at hz
      replace hz : ZoneAt W21 gn (some (putT M v (othR v (nearF L8)) (othR v (nearF L9)))) := hz
      have HTN := Lib.hid (HTI.out.put HV6.out HPS.out hneg)
      have HEX := Lib.hid (ext_put HTI.out HV1.out HV6.out HPS.out hneg q)
      have HUP := Lib.hid (fun k (hk : k < 60) (hkv : k ≠ v) => put_up (M := M) HPS.out.ok hk hkv (HTI.out.diag k hk))
      have HDN := Lib.hid (fun k (hk : k < 60) (hkv : k ≠ v) => put_down (M := M) HPS.out.ok hk hkv (HTI.out.diag k hk))
      clear hneg HPZ
      generalize putT M v (othR v (nearF L8)) (othR v (nearF L9)) = N at *
      have S21 := Lib.hid (show St w W21 [(gn, some N), (gj, mergeZ joinT (some M) (some O)), (go, some O), (g1, some topT), (gz, some M), (g0, some topT)] from (S20.out.up hB).add hz)
      have THOP := Lib.hid (HOP.out.up hB)
      clear HOP
      have HOP := THOP
      clear THOP
      have THBgu := Lib.hid (HBgu.out.up hB)
      clear HBgu
      have HBgu := THBgu
      clear THBgu
      have THBgd := Lib.hid (HBgd.out.up hB)
      clear HBgd
      have HBgd := THBgd
      clear THBgd
      clear hB S20 hz
      go_wp2_with fail
      go_at_call 24
      refine (Empty_any _ gn (some N) (S21.out.2 (gn, some N) (by simp))).mono ?_
      rintro e W22 ⟨rfl, rfl⟩
      rw [show voidB (some N) = false from rfl]
      have S22 := S21
      clear S21
      go_wp2_with fail
      go_at_call 41
      refine (Reach_any _ gn N _ q (S22.out.2 (gn, some N) (by simp)) HQ6.out).mono ?_
      rintro e W23 ⟨gt, rfl, hg, hv, hB⟩
      have HVgt := Lib.hid hv
      have S23 := Lib.hid (show St w W23 [(gn, some N), (gj, mergeZ joinT (some M) (some O)), (go, some O), (g1, some topT), (gz, some M), (g0, some topT)] from (S22.out.up hB))
      have THOP := Lib.hid (HOP.out.up hB)
      clear HOP
      have HOP := THOP
      clear THOP
      have THBgu := Lib.hid (HBgu.out.up hB)
      clear HBgu
      have HBgu := THBgu
      clear THBgu
      have THBgd := Lib.hid (HBgd.out.up hB)
      clear HBgd
      have HBgd := THBgd
      clear THBgd
      clear hB S22 hg hv
      have HTM := Lib.hid (HTN.out.meets q)
      have HTR := Lib.hid (reachV_rng HTN.out q)
      have HTJ := Lib.hid (HTN.out.i64r q)
      generalize reachV N q = b at *
      have HCU := Lib.hid (show ∀ k, k < 60 → k ≠ v → (nearF L8 k).1 = true → b v - b k ≤ (nearF L8 k).2 from fun k hk hkv h => by
        have h1 := HUP.out k hk hkv
        rw [oth_at2 hkv h] at h1
        have h2 := nearF_rng h
        have := HTM.out v k HV6.out hk (by omega)
        omega)
      have HCD := Lib.hid (show ∀ k, k < 60 → k ≠ v → (nearF L9 k).1 = true → b k - b v ≤ (nearF L9 k).2 from fun k hk hkv h => by
        have h1 := HDN.out k hk hkv
        rw [oth_at2 hkv h] at h1
        have h2 := nearF_rng h
        have := HTM.out k v hk HV6.out (by omega)
        omega)
      clear HUP HDN
      go_wp2_with fail
      go_loopw [25] (fun i wr => ∃ k : Nat, k ≤ 60 ∧ i = .int .i64 k ∧ Below W23.heap.size W23 wr) (fun i _ => (60 - intOf i).toNat)
      case atStart => exact ⟨0, by omega, rfl, Below.refl _ _⟩
      case round =>
        obtain ⟨k, hk, rfl, hB⟩ := hrel
        have hk0 : (0 : Int) ≤ k := by omega
        by_cases hlt : k < 60
        · have hk6 : (k : Int) < 60 := by omega
          have HKT := Lib.hid hlt
          have HB := Lib.hid hB
          have a0 := (BvAt.up HBgu.out hB).is_ k hlt
          have a1 := (BvAt.up HBgu.out hB).c_ k hlt
          have d0 := (BvAt.up HBgd.out hB).is_ k hlt
          have d1 := (BvAt.up HBgd.out hB).c_ k hlt
          have b0 := (HVgt.out.up hB).at_ k hlt
          have b1 := (HVgt.out.up hB).at_ v HV6.out
          have hcu := HCU.out k hlt
          have hcd := HCD.out k hlt
          have rk := HTR.out k hlt
          have rv := HTR.out v HV6.out
          clear hB hlt
          generalize (nearF L8 k).1 = ui at *
          generalize (nearF L8 k).2 = uc at *
          generalize (nearF L9 k).1 = di at *
          generalize (nearF L9 k).2 = dc at *
          generalize hbk : b k = bk at *
          generalize hbv : b v = bw at *
          obtain ⟨rk1, rk2⟩ := rk
          obtain ⟨rv1, rv2⟩ := rv
          have hway : ((k : Int) != (v : Int)) = false ∧ ((k : Int) == (v : Int)) = true ∨ (((k : Int) != (v : Int)) = true ∧ ((k : Int) == (v : Int)) = false ∧ (ui = false ∨ (ui = true ∧ decide (uc < bw - bk) = false)) ∧ (di = false ∨ (di = true ∧ decide (dc < bk - bw) = false))) := by
            by_cases e : k = v
            · exact .inl ⟨by rw [e]; exact bne_self_eq_false _, by rw [e]; exact beq_self_eq_true _⟩
            · refine .inr ⟨by rw [bne_iff_ne]; omega, by rw [beq_eq_false_iff_ne]; omega, ?_, ?_⟩
              · cases ui
                · exact .inl rfl
                · exact .inr ⟨rfl, decide_eq_false (by have := hcu e rfl; omega)⟩
              · cases di
                · exact .inl rfl
                · exact .inr ⟨rfl, decide_eq_false (by have := hcd e rfl; omega)⟩
          clear hcu hcd hbk hbv
          rcases hway with ⟨t1, t2⟩ | ⟨t1, t2, hu, hd⟩
          · go_upto_region 29 with (fail)
            go_quiet (fail)
            have HB5 := Lib.hid (below_drewN' HB.out nq)
            go_wp2_with fail
            go_roundw
            case rel => exact ⟨k + 1, by have := HKT.out; omega, by go_num, HB5.out⟩
            case measure => simp [intOf]; omega
          · go_upto_region 29 with (fail)
            rcases hu with rfl | ⟨rfl, tu⟩ <;> rcases hd with rfl | ⟨rfl, td⟩
            all_goals
              go_quiet (fail)
              have HB5 := Lib.hid (below_drewN' HB.out nq)
              go_wp2_with fail
              go_roundw
              case rel => exact ⟨k + 1, by have := HKT.out; omega, by go_num, HB5.out⟩
              case measure => simp [intOf]; omega
        · obtain rfl : k = 60 := by omega
          have SE := Lib.hid (S23.out.up hB)
          have HVe := Lib.hid (HVgt.out.up hB)
          clear hB
          go_wp2_with fail
          go_at_call 42
          have hbox := below_box wr (.cells #[.int .i64 v] 3)
          refine (extend_any _ gz gt M b (some ⟨wr.heap.size, 0, none⟩) 1 1 [(v : Int)] ((SE.out.up hbox).2 (gz, some M) (by simp)) (HVe.out.up hbox) rfl (by omega) (nums_new wr v _) HTI.out.toTight HEX.out).mono ?_
          rintro e We ⟨ge2, rfl, hB⟩
          have hBe := hbox.trans (hB.mono hbox.size)
          have SF := Lib.hid (SE.out.up hBe)
          have HVf := Lib.hid (HVe.out.up hBe)
          clear hbox hB hBe SE HVe
          go_wp2_with fail
          go_at_call 13
          refine (meets_yes _ gn N (SF.out.2 (gn, some N) (by simp)) gt b HVf.out HTJ.out HTM.out).mono ?_
          rintro e WY ⟨rfl, hB⟩
          have SY := Lib.hid (SF.out.1.trans (hB.mono SF.out.1.size))
          clear hB
          go_wp2_with fail
          go_at_call 14
          refine (awake_any _).mono ?_
          rintro e WZ ⟨rfl, hB⟩
          have SZ := Lib.hid (SY.out.trans (hB.mono SY.out.size))
          clear hB
          go_wp2_with fail
          go_ret
          exact ⟨rfl, SZ.out⟩
    · rw [hneg] at hz
      replace hz : ZoneAt W21 gn none := hz
      clear hneg HPZ
      have S21 := Lib.hid (show St w W21 [(gn, none), (gj, mergeZ joinT (some M) (some O)), (go, some O), (g1, some topT), (gz, some M), (g0, some topT)] from (S20.out.up hB).add hz)
      clear hB S20 hz
      go_wp2_with fail
      go_at_call 24
      refine (Empty_any _ gn none (S21.out.2 (gn, none) (by simp))).mono ?_
      rintro e W22 ⟨rfl, rfl⟩
      rw [show voidB none = true from rfl]
      have S22 := S21
      clear S21
      go_wp2_with fail
      go_at_call 14
      refine (awake_any _).mono ?_
      rintro e W23 ⟨rfl, hB⟩
      have S23 := Lib.hid (show St w W23 [(gn, none), (gj, mergeZ joinT (some M) (some O)), (go, some O), (g1, some topT), (gz, some M), (g0, some topT)] from (S22.out.up hB))
      clear hB S22
      go_wp2_with fail
      go_ret
      exact ⟨rfl, S23.out.1⟩
set_option maxHeartbeats 6000000 in
theorem zoneRenews_w3 (w : World) (A0 : Option Addr) (n0 c0 : Nat) (L0 : List Con) (i0 : ConIn w A0 n0 c0 L0) (A1 : Option Addr) (n1 c1 : Nat) (L1 : List Con) (i1 : ConIn w A1 n1 c1 L1) (k0 k1 k2 X Y C : Int) (hX : I64 X) (A6 A7 A8 A9 : Option Addr) (n6 c6 n7 c7 n8 c8 n9 c9 : Nat) (L8 : List (Bool × Int)) (l8 : L8.length = n8) (i8 : BsAt w A8 L8) (L9 : List (Bool × Int)) (l9 : L9.length = n9) (i9 : BsAt w A9 L9) (x3 : Int) (b3 : I64 x3) (x4 : Int) (b4 : I64 x4) (M : Tab) (hv : withZ (some topT) (smallL L0) = some M) (O : Tab) (ho : withZ (some topT) (smallL L1) = some O) (p q : Nat) (hp : x3 % 60 = p) (hp6 : p < 60) (hq : x4 % 60 = q) (hq6 : q < 60) (hjw0 : bv (bnd (joinT M O p q)) = .agg #[.bool false, .int .i64 0] ∧ ¬ reachV M q p - reachV M q q < 281474976710656) :
    Calls Try.prog 7 #[.slice A0 n0 c0, .slice A1 n1 c1, .agg #[.int .i64 k0, .int .i64 k1, .int .i64 k2, .int .i64 X, .int .i64 Y, .int .i64 C, .slice A6 n6 c6, .slice A7 n7 c7, .slice A8 n8 c8, .slice A9 n9 c9], .int .i64 x3, .int .i64 x4] w (True_ w) := by
  have HTI := Lib.hid (Cl.tight' (small_cl hv))
  have HTO := Lib.hid (Cl.tight (small_cl ho))
  have HV := Lib.hid hv
  have HO := Lib.hid ho
  have HP := Lib.hid hp
  have HQ := Lib.hid hq
  have HQ6 := Lib.hid hq6
  have HP6 := Lib.hid hp6
  have HJW := Lib.hid hjw0
  clear hjw0
  have hp0 : (0 : Int) ≤ p := by omega
  have hp61 : (p : Int) < 60 := by omega
  have hq0 : (0 : Int) ≤ q := by omega
  have hq61 : (q : Int) < 60 := by omega
  clear hv ho hp hq hq6 hp6
  have I0 := Lib.hid i0
  have I1 := Lib.hid i1
  have HX := Lib.hid hX
  have B3 := Lib.hid b3
  have B4 := Lib.hid b4
  have L8L := Lib.hid l8
  have L9L := Lib.hid l9
  have I8 := Lib.hid i8
  have I9 := Lib.hid i9
  have HLS0 := Lib.hid (show (smallL L0).length ≤ 7000000000000 by have : (smallL L0).length ≤ L0.length := List.length_filter_le _ _; have := i0.len; have := i0.reach; omega)
  have HWS0 := Lib.hid (wrongL_small L0)
  have HLS1 := Lib.hid (show (smallL L1).length ≤ 7000000000000 by have : (smallL L1).length ≤ L1.length := List.length_filter_le _ _; have := i1.len; have := i1.reach; omega)
  have HWS1 := Lib.hid (wrongL_small L1)
  clear i0 i1 hX b3 b4 l8 l9 i8 i9
  obtain ⟨w1, hw1⟩ : ∃ w1, w1 = w.alloc (.cells #[.int .i64 k0, .int .i64 k1, .int .i64 k2, .int .i64 X, .int .i64 Y, .int .i64 C, .slice A6 n6 c6, .slice A7 n7 c7, .slice A8 n8 c8, .slice A9 n9 c9] 57) := ⟨_, rfl⟩
  have HOP := Lib.hid (show OpAt2 w1 w.heap.size X (.slice A8 n8 c8) (.slice A9 n9 c9) by rw [hw1]; exact ⟨by simp, by simp [go_sem], by simp [go_sem], by simp [go_sem]⟩)
  have HBx := Lib.hid (show Below w.heap.size w w1 by rw [hw1]; exact below_box w _)
  have HW1 := Lib.hid hw1
  clear hw1
  go_enter Try.func7, Try.ntmps7
  go_upto_region 1 with (fail)
  rw [← HW1.out]
  clear HW1
  obtain ⟨bx, hbx⟩ : ∃ bx, bx = w.heap.size := ⟨_, rfl⟩
  rw [← hbx] at HOP ⊢
  have HBX := Lib.hid hbx
  clear hbx
  have S0 := Lib.hid (show St w w1 [] from (St.start w).up HBx.out)
  clear HBx
  go_wp2_with fail
  go_at_call 9
  refine (New_law _).mono ?_
  rintro e W1 ⟨g0, rfl, hg, hz, hB⟩
  have S1 := Lib.hid (show St w W1 [(g0, some topT)] from (S0.out.up hB).add hz)
  have THOP := Lib.hid (HOP.out.up hB)
  clear HOP
  have HOP := THOP
  clear THOP
  clear hB S0 hz hg
  go_wp2_with fail
  go_at_call 19
  refine (small_any _ A0 n0 c0 L0 (lw_conb I0.out S1.out.1)).mono ?_
  rintro e W2 ⟨As, ns, cs, rfl, hLs, hcs, hAs, hB⟩
  have HAs1 := Lib.hid hAs
  have HNs1 := Lib.hid hLs
  have S2 := Lib.hid (show St w W2 [(g0, some topT)] from (S1.out.up hB))
  have THOP := Lib.hid (HOP.out.up hB)
  clear HOP
  have HOP := THOP
  clear THOP
  clear hB S1 hAs hLs hcs
  go_wp2_with fail
  go_at_call 11
  refine (cons_law _ As ns cs (smallL L0) (HNs1.out) (by have := HNs1.out; have := HLS0.out; omega) HAs1.out).mono ?_
  rintro e W3 ⟨Al2, nl2, cl2, rfl, hL2, hc2, hA2, hB⟩
  have HA2 := Lib.hid hA2
  have HL102 := Lib.hid hL2
  have S3 := Lib.hid (show St w W3 [(g0, some topT)] from (S2.out.up hB))
  have THOP := Lib.hid (HOP.out.up hB)
  clear HOP
  have HOP := THOP
  clear THOP
  clear hB S2 hA2 hL2 hc2
  go_wp2_with fail
  go_at_call 10
  refine (With_law _ g0 (some topT) Al2 nl2 cl2 (smallL L0) (S3.out.2 (g0, some topT) (by simp)) HL102.out (by have := HL102.out; have := HLS0.out; omega) HA2.out HWS0.out).mono ?_
  rintro e W4 ⟨gz, rfl, hz, hB⟩
  rw [HV.out] at hz
  have S4 := Lib.hid (show St w W4 [(gz, some M), (g0, some topT)] from (S3.out.up hB).add hz)
  have THOP := Lib.hid (HOP.out.up hB)
  clear HOP
  have HOP := THOP
  clear THOP
  clear hB S3 hz HA2 HL102
  go_wp2_with fail
  go_at_call 9
  refine (New_law _).mono ?_
  rintro e W5 ⟨g1, rfl, hg, hz, hB⟩
  have S5 := Lib.hid (show St w W5 [(g1, some topT), (gz, some M), (g0, some topT)] from (S4.out.up hB).add hz)
  have THOP := Lib.hid (HOP.out.up hB)
  clear HOP
  have HOP := THOP
  clear THOP
  clear hB S4 hz hg
  go_wp2_with fail
  go_at_call 19
  refine (small_any _ A1 n1 c1 L1 (lw_conb I1.out S5.out.1)).mono ?_
  rintro e W6 ⟨As, ns, cs, rfl, hLs, hcs, hAs, hB⟩
  have HAs5 := Lib.hid hAs
  have HNs5 := Lib.hid hLs
  have S6 := Lib.hid (show St w W6 [(g1, some topT), (gz, some M), (g0, some topT)] from (S5.out.up hB))
  have THOP := Lib.hid (HOP.out.up hB)
  clear HOP
  have HOP := THOP
  clear THOP
  clear hB S5 hAs hLs hcs
  go_wp2_with fail
  go_at_call 11
  refine (cons_law _ As ns cs (smallL L1) (HNs5.out) (by have := HNs5.out; have := HLS1.out; omega) HAs5.out).mono ?_
  rintro e W7 ⟨Al6, nl6, cl6, rfl, hL6, hc6, hA6, hB⟩
  have HA6 := Lib.hid hA6
  have HL106 := Lib.hid hL6
  have S7 := Lib.hid (show St w W7 [(g1, some topT), (gz, some M), (g0, some topT)] from (S6.out.up hB))
  have THOP := Lib.hid (HOP.out.up hB)
  clear HOP
  have HOP := THOP
  clear THOP
  clear hB S6 hA6 hL6 hc6
  go_wp2_with fail
  go_at_call 10
  refine (With_law _ g1 (some topT) Al6 nl6 cl6 (smallL L1) (S7.out.2 (g1, some topT) (by simp)) HL106.out (by have := HL106.out; have := HLS1.out; omega) HA6.out HWS1.out).mono ?_
  rintro e W8 ⟨go, rfl, hz, hB⟩
  rw [HO.out] at hz
  have S8 := Lib.hid (show St w W8 [(go, some O), (g1, some topT), (gz, some M), (g0, some topT)] from (S7.out.up hB).add hz)
  have THOP := Lib.hid (HOP.out.up hB)
  clear HOP
  have HOP := THOP
  clear THOP
  clear hB S7 hz HA6 HL106
  go_wp2_with fail
  go_at_call 24
  refine (Empty_any _ gz (some M) (S8.out.2 (gz, some M) (by simp))).mono ?_
  rintro e W9 ⟨rfl, rfl⟩
  rw [show voidB (some M) = false from rfl]
  have S9 := S8
  clear S8
  go_wp2_with fail
  go_at_call 24
  refine (Empty_any _ go (some O) (S9.out.2 (go, some O) (by simp))).mono ?_
  rintro e W10 ⟨rfl, rfl⟩
  rw [show voidB (some O) = false from rfl]
  have S10 := S9
  clear S9
  go_wp2_with fail
  go_at_call 22
  refine (place_any _ 60 _ B3.out (by omega) (by omega)).mono ?_
  rintro e w' ⟨rfl, rfl⟩
  rw [HP.out]
  go_wp2_with fail
  go_at_call 22
  refine (place_any _ 60 _ B4.out (by omega) (by omega)).mono ?_
  rintro e w' ⟨rfl, rfl⟩
  rw [HQ.out]
  go_wp2_with fail
  go_at_call 38
  refine (Join_any _ gz go (some M) (some O) (S10.out.2 (gz, some M) (by simp)) (S10.out.2 (go, some O) (by simp))).mono ?_
  rintro e W11 ⟨gj, rfl, hg, hz, hB⟩
  have S11 := Lib.hid (show St w W11 [(gj, mergeZ joinT (some M) (some O)), (go, some O), (g1, some topT), (gz, some M), (g0, some topT)] from (S10.out.up hB).add hz)
  have THOP := Lib.hid (HOP.out.up hB)
  clear HOP
  have HOP := THOP
  clear THOP
  clear hB S10 hz hg
  go_wp2_with fail
  go_at_call 18
  refine (Bound_at _ gj p q (joinT M O) (S11.out.2 (gj, mergeZ joinT (some M) (some O)) (by simp)) HP6.out HQ6.out).mono ?_
  rintro e W12 ⟨rfl, hB⟩
  obtain ⟨bi, bc, hbv⟩ := bv_form2 (bnd (joinT M O p q))
  rw [hbv]
  have HBV := Lib.hid hbv
  clear hbv
  have S12 := Lib.hid (show St w W12 [(gj, mergeZ joinT (some M) (some O)), (go, some O), (g1, some topT), (gz, some M), (g0, some topT)] from (S11.out.up hB))
  have THOP := Lib.hid (HOP.out.up hB)
  clear HOP
  have HOP := THOP
  clear THOP
  clear hB S11
  go_upto_region 11 with (fail)
  have hbb := Blk.new W12 38 #[.bool bi, .int .i64 bc]
  have hB := below_box W12 (.cells #[.bool bi, .int .i64 bc] 38)
  generalize W12.alloc (.cells #[.bool bi, .int .i64 bc] 38) = W13 at *
  have hbl := hbb.lt
  obtain ⟨gb, hgb⟩ : ∃ gb, gb = W12.heap.size := ⟨_, rfl⟩
  rw [← hgb] at hbb hbl ⊢
  have HBB := Lib.hid (show FB W13 gb 38 2 (fun k => if k = 0 then .bool bi else .int .i64 bc) from hbb)
  have S13 := Lib.hid (show St w W13 [(gj, mergeZ joinT (some M) (some O)), (go, some O), (g1, some topT), (gz, some M), (g0, some topT)] from (S12.out.up hB))
  have THOP := Lib.hid (HOP.out.up hB)
  clear HOP
  have HOP := THOP
  clear THOP
  clear hB S12 hgb hbb hbl
  go_wp2_with fail
  go_at_call 41
  refine (Reach_any _ gz M _ q (S13.out.2 (gz, some M) (by simp)) HQ6.out).mono ?_
  rintro e W14 ⟨gr, rfl, hg, hv, hB⟩
  have HVgr := Lib.hid hv
  have S14 := Lib.hid (show St w W14 [(gj, mergeZ joinT (some M) (some O)), (go, some O), (g1, some topT), (gz, some M), (g0, some topT)] from (S13.out.up hB))
  have THOP := Lib.hid (HOP.out.up hB)
  clear HOP
  have HOP := THOP
  clear THOP
  have THBB := Lib.hid (HBB.out.up hB)
  clear HBB
  have HBB := THBB
  clear THBB
  clear hB S13 hg hv
  go_wp2_with fail
  go_at_call 41
  refine (Reach_any _ go O _ q (S14.out.2 (go, some O) (by simp)) HQ6.out).mono ?_
  rintro e W15 ⟨gs, rfl, hg, hv, hB⟩
  have HVgs := Lib.hid hv
  have S15 := Lib.hid (show St w W15 [(gj, mergeZ joinT (some M) (some O)), (go, some O), (g1, some topT), (gz, some M), (g0, some topT)] from (S14.out.up hB))
  have THOP := Lib.hid (HOP.out.up hB)
  clear HOP
  have HOP := THOP
  clear THOP
  have THBB := Lib.hid (HBB.out.up hB)
  clear HBB
  have HBB := THBB
  clear THBB
  have THVgr := Lib.hid (HVgr.out.up hB)
  clear HVgr
  have HVgr := THVgr
  clear THVgr
  clear hB S14 hg hv
  go_wp2_with fail
  go_at_call 13
  refine (meets_yes _ gj (joinT M O) (S15.out.2 (gj, mergeZ joinT (some M) (some O)) (by simp)) gr (reachV M q) HVgr.out (HTI.out.toTight.i64r q) (meets_join (HTI.out.toTight.meets q) HTI.out.ok HTO.out.ok)).mono ?_
  rintro e W16 ⟨rfl, hB⟩
  have S16 := Lib.hid (show St w W16 [(gj, mergeZ joinT (some M) (some O)), (go, some O), (g1, some topT), (gz, some M), (g0, some topT)] from (S15.out.up hB))
  have THOP := Lib.hid (HOP.out.up hB)
  clear HOP
  have HOP := THOP
  clear THOP
  have THBB := Lib.hid (HBB.out.up hB)
  clear HBB
  have HBB := THBB
  clear THBB
  have THVgr := Lib.hid (HVgr.out.up hB)
  clear HVgr
  have HVgr := THVgr
  clear THVgr
  have THVgs := Lib.hid (HVgs.out.up hB)
  clear HVgs
  have HVgs := THVgs
  clear THVgs
  clear hB S15
  go_wp2_with fail
  go_at_call 13
  refine (meets_yes _ gj (joinT M O) (S16.out.2 (gj, mergeZ joinT (some M) (some O)) (by simp)) gs (reachV O q) HVgs.out (HTO.out.i64r q) (meets_join2 (HTO.out.meets q) HTI.out.ok HTO.out.ok)).mono ?_
  rintro e W17 ⟨rfl, hB⟩
  have S17 := Lib.hid (show St w W17 [(gj, mergeZ joinT (some M) (some O)), (go, some O), (g1, some topT), (gz, some M), (g0, some topT)] from (S16.out.up hB))
  have THOP := Lib.hid (HOP.out.up hB)
  clear HOP
  have HOP := THOP
  clear THOP
  have THBB := Lib.hid (HBB.out.up hB)
  clear HBB
  have HBB := THBB
  clear THBB
  have THVgr := Lib.hid (HVgr.out.up hB)
  clear HVgr
  have HVgr := THVgr
  clear THVgr
  have THVgs := Lib.hid (HVgs.out.up hB)
  clear HVgs
  have HVgs := THVgs
  clear THVgs
  clear hB S16
  go_upto_region 15 with (fail)
  have y0 := FB.cell HBB.out 0 (by omega)
  have y1 := FB.cell HBB.out 1 (by omega)
  simp only [if_true, Nat.one_ne_zero, if_false] at y0 y1
  have r0 := HVgr.out.at_ p HP6.out
  have r1 := HVgr.out.at_ q HQ6.out
  have s0 := HVgs.out.at_ p HP6.out
  have s1 := HVgs.out.at_ q HQ6.out
  have e0 := reachV_rng HTI.out.toTight q p HP6.out
  have e1 := reachV_rng HTI.out.toTight q q HQ6.out
  have e2 := reachV_rng HTO.out q p HP6.out
  have e3 := reachV_rng HTO.out q q HQ6.out
  have hjw := HJW.out
  rw [HBV.out] at hjw
  clear HJW HBV
  generalize joinT M O p q = jv at hjw
  generalize reachV M q p = rp at *
  generalize reachV M q q = rq at *
  generalize reachV O q p = sp at *
  generalize reachV O q q = sq at *
  obtain ⟨e01, e02⟩ := e0
  obtain ⟨e11, e12⟩ := e1
  obtain ⟨e21, e22⟩ := e2
  obtain ⟨e31, e32⟩ := e3
  simp only [Value.agg.injEq, Array.mk.injEq, List.cons.injEq, Value.bool.injEq, Value.int.injEq, true_and, and_true] at hjw
  obtain ⟨⟨g1, g2⟩, g3⟩ := hjw
  have q1 : decide (rp - rq < 281474976710656) = false := decide_eq_false (by omega)
  subst g1
  clear g2 g3 jv
  have hq15 : ∀ (nn : Nat), St w (W17.drewN nn) [(gj, mergeZ joinT (some M) (some O)), (go, some O), (g1, some topT), (gz, some M), (g0, some topT)] := fun nn => S17.out.up (below_drewN' (Below.refl _ _) nn)
  have HQ15 := Lib.hid hq15
  have HOQ := Lib.hid (fun nn => HOP.out.up (below_drewN' (Below.refl W17.heap.size W17) nn))
  clear hq15
  all_goals
    go_quiet (fail)
    go_upto_region 17 with (fail)
    obtain ⟨WQ, hWQ⟩ : ∃ WQ, WQ = W17.drewN nq := ⟨_, rfl⟩
    rw [← hWQ]
    have S18 := Lib.hid (show St w WQ [(gj, mergeZ joinT (some M) (some O)), (go, some O), (g1, some topT), (gz, some M), (g0, some topT)] by rw [hWQ]; exact HQ15.out nq)
    have HOPn := Lib.hid (show OpAt2 WQ bx X (.slice A8 n8 c8) (.slice A9 n9 c9) by rw [hWQ]; exact HOQ.out nq)
    clear hWQ y0 y1 r0 r1 s0 s1 HQ15 HOQ S17 HOP HBB HVgr HVgs
    have HOP := HOPn
    clear HOPn
    have v8 := HOP.out.u
    go_wp2_with fail
    go_at_call 43
    refine (near_any _ A8 n8 c8 L8 L8L.out (I8.out.below S18.out.1)).mono ?_
    rintro e W19 ⟨gu, rfl, hg, hv, hB⟩
    have HBgu := Lib.hid hv
    clear v8
    have S19 := Lib.hid (show St w W19 [(gj, mergeZ joinT (some M) (some O)), (go, some O), (g1, some topT), (gz, some M), (g0, some topT)] from (S18.out.up hB))
    have THOP := Lib.hid (HOP.out.up hB)
    clear HOP
    have HOP := THOP
    clear THOP
    clear hB S18 hg hv
    have v8 := HOP.out.d
    go_wp2_with fail
    go_at_call 43
    refine (near_any _ A9 n9 c9 L9 L9L.out (I9.out.below S19.out.1)).mono ?_
    rintro e W20 ⟨gd, rfl, hg, hv, hB⟩
    have HBgd := Lib.hid hv
    clear v8
    have S20 := Lib.hid (show St w W20 [(gj, mergeZ joinT (some M) (some O)), (go, some O), (g1, some topT), (gz, some M), (g0, some topT)] from (S19.out.up hB))
    have THOP := Lib.hid (HOP.out.up hB)
    clear HOP
    have HOP := THOP
    clear THOP
    have THBgu := Lib.hid (HBgu.out.up hB)
    clear HBgu
    have HBgu := THBgu
    clear THBgu
    clear hB S19 hg hv
    have v3 := HOP.out.x
    go_wp2_with fail
    go_at_call 22
    refine (place_any _ 59 _ HX.out (by omega) (by omega)).mono ?_
    rintro e w' ⟨rfl, rfl⟩
    obtain ⟨m, hm, hm59⟩ : ∃ m : Nat, X % 59 = m ∧ m < 59 := ⟨(X % 59).toNat, by omega, by omega⟩
    rw [hm]
    clear hm v3
    go_upto_region 20 with (fail)
    obtain ⟨v, hv1⟩ : ∃ v : Nat, v = m + 1 := ⟨_, rfl⟩
    rw [show (1 : Int) + (m : Int) = (v : Int) by omega]
    have HV1 := Lib.hid (show 1 ≤ v by omega)
    have HV6 := Lib.hid (show v < 60 by omega)
    have hv0 : (0 : Int) ≤ v := by omega
    have hv61 : (v : Int) < 60 := by omega
    clear hv1 hm59
    have HPS := Lib.hid (near_small v L8 L9)
    have HPZ := Lib.hid (show putZ (some M) v (othR v (nearF L8)) (othR v (nearF L9)) = if negT (putT M v (othR v (nearF L8)) (othR v (nearF L9))) then none else some (putT M v (othR v (nearF L8)) (othR v (nearF L9))) from rfl)
    go_wp2_with fail
    go_at_call 16
    refine (Put_law _ gz v gu gd (some M) (nearF L8) (nearF L9) (S20.out.2 (gz, some M) (by simp)) HV6.out HV1.out HBgu.out HBgd.out (fun q hq hqx h => near_rngB h) (fun q hq hqx h => near_rngB h) HPS.out.ok).mono ?_
    rintro e W21 ⟨gn, rfl, hz, hB⟩
    rw [HPZ.out] at hz
    cases hneg : negT (putT M v (othR v (nearF L8)) (othR v (nearF L9)))
    · rw [hneg] at hz
      replace hz : ZoneAt W21 gn (some (putT M v (othR v (nearF L8)) (othR v (nearF L9)))) := hz
      have HTN := Lib.hid (HTI.out.put HV6.out HPS.out hneg)
      have HEX := Lib.hid (ext_put HTI.out HV1.out HV6.out HPS.out hneg q)
      have HUP := Lib.hid (fun k (hk : k < 60) (hkv : k ≠ v) => put_up (M := M) HPS.out.ok hk hkv (HTI.out.diag k hk))
      have HDN := Lib.hid (fun k (hk : k < 60) (hkv : k ≠ v) => put_down (M := M) HPS.out.ok hk hkv (HTI.out.diag k hk))
      clear hneg HPZ
      generalize putT M v (othR v (nearF L8)) (othR v (nearF L9)) = N at *
      have S21 := Lib.hid (show St w W21 [(gn, some N), (gj, mergeZ joinT (some M) (some O)), (go, some O), (g1, some topT), (gz, some M), (g0, some topT)] from (S20.out.up hB).add hz)
      have THOP := Lib.hid (HOP.out.up hB)
      clear HOP
      have HOP := THOP
      clear THOP
      have THBgu := Lib.hid (HBgu.out.up hB)
      clear HBgu
      have HBgu := THBgu
      clear THBgu
      have THBgd := Lib.hid (HBgd.out.up hB)
      clear HBgd
      have HBgd := THBgd
      clear THBgd
      clear hB S20 hz
      go_wp2_with fail
      go_at_call 24
      refine (Empty_any _ gn (some N) (S21.out.2 (gn, some N) (by simp))).mono ?_
      rintro e W22 ⟨rfl, rfl⟩
      rw [show voidB (some N) = false from rfl]
      have S22 := S21
      clear S21
      go_wp2_with fail
      go_at_call 41
      refine (Reach_any _ gn N _ q (S22.out.2 (gn, some N) (by simp)) HQ6.out).mono ?_
      rintro e W23 ⟨gt, rfl, hg, hv, hB⟩
      have HVgt := Lib.hid hv
      have S23 := Lib.hid (show St w W23 [(gn, some N), (gj, mergeZ joinT (some M) (some O)), (go, some O), (g1, some topT), (gz, some M), (g0, some topT)] from (S22.out.up hB))
      have THOP := Lib.hid (HOP.out.up hB)
      clear HOP
      have HOP := THOP
      clear THOP
      have THBgu := Lib.hid (HBgu.out.up hB)
      clear HBgu
      have HBgu := THBgu
      clear THBgu
      have THBgd := Lib.hid (HBgd.out.up hB)
      clear HBgd
      have HBgd := THBgd
      clear THBgd
      clear hB S22 hg hv
      have HTM := Lib.hid (HTN.out.meets q)
      have HTR := Lib.hid (reachV_rng HTN.out q)
      have HTJ := Lib.hid (HTN.out.i64r q)
      generalize reachV N q = b at *
      have HCU := Lib.hid (show ∀ k, k < 60 → k ≠ v → (nearF L8 k).1 = true → b v - b k ≤ (nearF L8 k).2 from fun k hk hkv h => by
        have h1 := HUP.out k hk hkv
        rw [oth_at2 hkv h] at h1
        have h2 := nearF_rng h
        have := HTM.out v k HV6.out hk (by omega)
        omega)
      have HCD := Lib.hid (show ∀ k, k < 60 → k ≠ v → (nearF L9 k).1 = true → b k - b v ≤ (nearF L9 k).2 from fun k hk hkv h => by
        have h1 := HDN.out k hk hkv
        rw [oth_at2 hkv h] at h1
        have h2 := nearF_rng h
        have := HTM.out k v hk HV6.out (by omega)
        omega)
      clear HUP HDN
      go_wp2_with fail
      go_loopw [25] (fun i wr => ∃ k : Nat, k ≤ 60 ∧ i = .int .i64 k ∧ Below W23.heap.size W23 wr) (fun i _ => (60 - intOf i).toNat)
      case atStart => exact ⟨0, by omega, rfl, Below.refl _ _⟩
      case round =>
        obtain ⟨k, hk, rfl, hB⟩ := hrel
        have hk0 : (0 : Int) ≤ k := by omega
        by_cases hlt : k < 60
        · have hk6 : (k : Int) < 60 := by omega
          have HKT := Lib.hid hlt
          have HB := Lib.hid hB
          have a0 := (BvAt.up HBgu.out hB).is_ k hlt
          have a1 := (BvAt.up HBgu.out hB).c_ k hlt
          have d0 := (BvAt.up HBgd.out hB).is_ k hlt
          have d1 := (BvAt.up HBgd.out hB).c_ k hlt
          have b0 := (HVgt.out.up hB).at_ k hlt
          have b1 := (HVgt.out.up hB).at_ v HV6.out
          have hcu := HCU.out k hlt
          have hcd := HCD.out k hlt
          have rk := HTR.out k hlt
          have rv := HTR.out v HV6.out
          clear hB hlt
          generalize (nearF L8 k).1 = ui at *
          generalize (nearF L8 k).2 = uc at *
          generalize (nearF L9 k).1 = di at *
          generalize (nearF L9 k).2 = dc at *
          generalize hbk : b k = bk at *
          generalize hbv : b v = bw at *
          obtain ⟨rk1, rk2⟩ := rk
          obtain ⟨rv1, rv2⟩ := rv
          have hway : ((k : Int) != (v : Int)) = false ∧ ((k : Int) == (v : Int)) = true ∨ (((k : Int) != (v : Int)) = true ∧ ((k : Int) == (v : Int)) = false ∧ (ui = false ∨ (ui = true ∧ decide (uc < bw - bk) = false)) ∧ (di = false ∨ (di = true ∧ decide (dc < bk - bw) = false))) := by
            by_cases e : k = v
            · exact .inl ⟨by rw [e]; exact bne_self_eq_false _, by rw [e]; exact beq_self_eq_true _⟩
            · refine .inr ⟨by rw [bne_iff_ne]; omega, by rw [beq_eq_false_iff_ne]; omega, ?_, ?_⟩
              · cases ui
                · exact .inl rfl
                · exact .inr ⟨rfl, decide_eq_false (by have := hcu e rfl; omega)⟩
              · cases di
                · exact .inl rfl
                · exact .inr ⟨rfl, decide_eq_false (by have := hcd e rfl; omega)⟩
          clear hcu hcd hbk hbv
          rcases hway with ⟨t1, t2⟩ | ⟨t1, t2, hu, hd⟩
          · go_upto_region 29 with (fail)
            go_quiet (fail)
            have HB5 := Lib.hid (below_drewN' HB.out nq)
            go_wp2_with fail
            go_roundw
            case rel => exact ⟨k + 1, by have := HKT.out; omega, by go_num, HB5.out⟩
            case measure => simp [intOf]; omega
          · go_upto_region 29 with (fail)
            rcases hu with rfl | ⟨rfl, tu⟩ <;> rcases hd with rfl | ⟨rfl, td⟩
            all_goals
              go_quiet (fail)
              have HB5 := Lib.hid (below_drewN' HB.out nq)
              go_wp2_with fail
              go_roundw
              case rel => exact ⟨k + 1, by have := HKT.out; omega, by go_num, HB5.out⟩
              case measure => simp [intOf]; omega
        · obtain rfl : k = 60 := by omega
          have SE := Lib.hid (S23.out.up hB)
          have HVe := Lib.hid (HVgt.out.up hB)
          clear hB
          go_wp2_with fail
          go_at_call 42
          have hbox := below_box wr (.cells #[.int .i64 v] 3)
          refine (extend_any _ gz gt M b (some ⟨wr.heap.size, 0, none⟩) 1 1 [(v : Int)] ((SE.out.up hbox).2 (gz, some M) (by simp)) (HVe.out.up hbox) rfl (by omega) (nums_new wr v _) HTI.out.toTight HEX.out).mono ?_
          rintro e We ⟨ge2, rfl, hB⟩
          have hBe := hbox.trans (hB.mono hbox.size)
          have SF := Lib.hid (SE.out.up hBe)
          have HVf := Lib.hid (HVe.out.up hBe)
          clear hbox hB hBe SE HVe
          go_wp2_with fail
          go_at_call 13
          refine (meets_yes _ gn N (SF.out.2 (gn, some N) (by simp)) gt b HVf.out HTJ.out HTM.out).mono ?_
          rintro e WY ⟨rfl, hB⟩
          have SY := Lib.hid (SF.out.1.trans (hB.mono SF.out.1.size))
          clear hB
          go_wp2_with fail
          go_at_call 14
          refine (awake_any _).mono ?_
          rintro e WZ ⟨rfl, hB⟩
          have SZ := Lib.hid (SY.out.trans (hB.mono SY.out.size))
          clear hB
          go_wp2_with fail
          go_ret
          exact ⟨rfl, SZ.out⟩
    · rw [hneg] at hz
      replace hz : ZoneAt W21 gn none := hz
      clear hneg HPZ
      have S21 := Lib.hid (show St w W21 [(gn, none), (gj, mergeZ joinT (some M) (some O)), (go, some O), (g1, some topT), (gz, some M), (g0, some topT)] from (S20.out.up hB).add hz)
      clear hB S20 hz
      go_wp2_with fail
      go_at_call 24
      refine (Empty_any _ gn none (S21.out.2 (gn, none) (by simp))).mono ?_
      rintro e W22 ⟨rfl, rfl⟩
      rw [show voidB none = true from rfl]
      have S22 := S21
      clear S21
      go_wp2_with fail
      go_at_call 14
      refine (awake_any _).mono ?_
      rintro e W23 ⟨rfl, hB⟩
      have S23 := Lib.hid (show St w W23 [(gn, none), (gj, mergeZ joinT (some M) (some O)), (go, some O), (g1, some topT), (gz, some M), (g0, some topT)] from (S22.out.up hB))
      clear hB S22
      go_wp2_with fail
      go_ret
      exact ⟨rfl, S23.out.1⟩
set_option maxHeartbeats 6000000 in
theorem zoneRenews_w4 (w : World) (A0 : Option Addr) (n0 c0 : Nat) (L0 : List Con) (i0 : ConIn w A0 n0 c0 L0) (A1 : Option Addr) (n1 c1 : Nat) (L1 : List Con) (i1 : ConIn w A1 n1 c1 L1) (k0 k1 k2 X Y C : Int) (hX : I64 X) (A6 A7 A8 A9 : Option Addr) (n6 c6 n7 c7 n8 c8 n9 c9 : Nat) (L8 : List (Bool × Int)) (l8 : L8.length = n8) (i8 : BsAt w A8 L8) (L9 : List (Bool × Int)) (l9 : L9.length = n9) (i9 : BsAt w A9 L9) (x3 : Int) (b3 : I64 x3) (x4 : Int) (b4 : I64 x4) (M : Tab) (hv : withZ (some topT) (smallL L0) = some M) (O : Tab) (ho : withZ (some topT) (smallL L1) = some O) (p q : Nat) (hp : x3 % 60 = p) (hp6 : p < 60) (hq : x4 % 60 = q) (hq6 : q < 60) (hjw0 : bv (bnd (joinT M O p q)) = .agg #[.bool false, .int .i64 0] ∧ reachV M q p - reachV M q q < 281474976710656 ∧ ¬ reachV O q p - reachV O q q < 281474976710656) :
    Calls Try.prog 7 #[.slice A0 n0 c0, .slice A1 n1 c1, .agg #[.int .i64 k0, .int .i64 k1, .int .i64 k2, .int .i64 X, .int .i64 Y, .int .i64 C, .slice A6 n6 c6, .slice A7 n7 c7, .slice A8 n8 c8, .slice A9 n9 c9], .int .i64 x3, .int .i64 x4] w (True_ w) := by
  have HTI := Lib.hid (Cl.tight' (small_cl hv))
  have HTO := Lib.hid (Cl.tight (small_cl ho))
  have HV := Lib.hid hv
  have HO := Lib.hid ho
  have HP := Lib.hid hp
  have HQ := Lib.hid hq
  have HQ6 := Lib.hid hq6
  have HP6 := Lib.hid hp6
  have HJW := Lib.hid hjw0
  clear hjw0
  have hp0 : (0 : Int) ≤ p := by omega
  have hp61 : (p : Int) < 60 := by omega
  have hq0 : (0 : Int) ≤ q := by omega
  have hq61 : (q : Int) < 60 := by omega
  clear hv ho hp hq hq6 hp6
  have I0 := Lib.hid i0
  have I1 := Lib.hid i1
  have HX := Lib.hid hX
  have B3 := Lib.hid b3
  have B4 := Lib.hid b4
  have L8L := Lib.hid l8
  have L9L := Lib.hid l9
  have I8 := Lib.hid i8
  have I9 := Lib.hid i9
  have HLS0 := Lib.hid (show (smallL L0).length ≤ 7000000000000 by have : (smallL L0).length ≤ L0.length := List.length_filter_le _ _; have := i0.len; have := i0.reach; omega)
  have HWS0 := Lib.hid (wrongL_small L0)
  have HLS1 := Lib.hid (show (smallL L1).length ≤ 7000000000000 by have : (smallL L1).length ≤ L1.length := List.length_filter_le _ _; have := i1.len; have := i1.reach; omega)
  have HWS1 := Lib.hid (wrongL_small L1)
  clear i0 i1 hX b3 b4 l8 l9 i8 i9
  obtain ⟨w1, hw1⟩ : ∃ w1, w1 = w.alloc (.cells #[.int .i64 k0, .int .i64 k1, .int .i64 k2, .int .i64 X, .int .i64 Y, .int .i64 C, .slice A6 n6 c6, .slice A7 n7 c7, .slice A8 n8 c8, .slice A9 n9 c9] 57) := ⟨_, rfl⟩
  have HOP := Lib.hid (show OpAt2 w1 w.heap.size X (.slice A8 n8 c8) (.slice A9 n9 c9) by rw [hw1]; exact ⟨by simp, by simp [go_sem], by simp [go_sem], by simp [go_sem]⟩)
  have HBx := Lib.hid (show Below w.heap.size w w1 by rw [hw1]; exact below_box w _)
  have HW1 := Lib.hid hw1
  clear hw1
  go_enter Try.func7, Try.ntmps7
  go_upto_region 1 with (fail)
  rw [← HW1.out]
  clear HW1
  obtain ⟨bx, hbx⟩ : ∃ bx, bx = w.heap.size := ⟨_, rfl⟩
  rw [← hbx] at HOP ⊢
  have HBX := Lib.hid hbx
  clear hbx
  have S0 := Lib.hid (show St w w1 [] from (St.start w).up HBx.out)
  clear HBx
  go_wp2_with fail
  go_at_call 9
  refine (New_law _).mono ?_
  rintro e W1 ⟨g0, rfl, hg, hz, hB⟩
  have S1 := Lib.hid (show St w W1 [(g0, some topT)] from (S0.out.up hB).add hz)
  have THOP := Lib.hid (HOP.out.up hB)
  clear HOP
  have HOP := THOP
  clear THOP
  clear hB S0 hz hg
  go_wp2_with fail
  go_at_call 19
  refine (small_any _ A0 n0 c0 L0 (lw_conb I0.out S1.out.1)).mono ?_
  rintro e W2 ⟨As, ns, cs, rfl, hLs, hcs, hAs, hB⟩
  have HAs1 := Lib.hid hAs
  have HNs1 := Lib.hid hLs
  have S2 := Lib.hid (show St w W2 [(g0, some topT)] from (S1.out.up hB))
  have THOP := Lib.hid (HOP.out.up hB)
  clear HOP
  have HOP := THOP
  clear THOP
  clear hB S1 hAs hLs hcs
  go_wp2_with fail
  go_at_call 11
  refine (cons_law _ As ns cs (smallL L0) (HNs1.out) (by have := HNs1.out; have := HLS0.out; omega) HAs1.out).mono ?_
  rintro e W3 ⟨Al2, nl2, cl2, rfl, hL2, hc2, hA2, hB⟩
  have HA2 := Lib.hid hA2
  have HL102 := Lib.hid hL2
  have S3 := Lib.hid (show St w W3 [(g0, some topT)] from (S2.out.up hB))
  have THOP := Lib.hid (HOP.out.up hB)
  clear HOP
  have HOP := THOP
  clear THOP
  clear hB S2 hA2 hL2 hc2
  go_wp2_with fail
  go_at_call 10
  refine (With_law _ g0 (some topT) Al2 nl2 cl2 (smallL L0) (S3.out.2 (g0, some topT) (by simp)) HL102.out (by have := HL102.out; have := HLS0.out; omega) HA2.out HWS0.out).mono ?_
  rintro e W4 ⟨gz, rfl, hz, hB⟩
  rw [HV.out] at hz
  have S4 := Lib.hid (show St w W4 [(gz, some M), (g0, some topT)] from (S3.out.up hB).add hz)
  have THOP := Lib.hid (HOP.out.up hB)
  clear HOP
  have HOP := THOP
  clear THOP
  clear hB S3 hz HA2 HL102
  go_wp2_with fail
  go_at_call 9
  refine (New_law _).mono ?_
  rintro e W5 ⟨g1, rfl, hg, hz, hB⟩
  have S5 := Lib.hid (show St w W5 [(g1, some topT), (gz, some M), (g0, some topT)] from (S4.out.up hB).add hz)
  have THOP := Lib.hid (HOP.out.up hB)
  clear HOP
  have HOP := THOP
  clear THOP
  clear hB S4 hz hg
  go_wp2_with fail
  go_at_call 19
  refine (small_any _ A1 n1 c1 L1 (lw_conb I1.out S5.out.1)).mono ?_
  rintro e W6 ⟨As, ns, cs, rfl, hLs, hcs, hAs, hB⟩
  have HAs5 := Lib.hid hAs
  have HNs5 := Lib.hid hLs
  have S6 := Lib.hid (show St w W6 [(g1, some topT), (gz, some M), (g0, some topT)] from (S5.out.up hB))
  have THOP := Lib.hid (HOP.out.up hB)
  clear HOP
  have HOP := THOP
  clear THOP
  clear hB S5 hAs hLs hcs
  go_wp2_with fail
  go_at_call 11
  refine (cons_law _ As ns cs (smallL L1) (HNs5.out) (by have := HNs5.out; have := HLS1.out; omega) HAs5.out).mono ?_
  rintro e W7 ⟨Al6, nl6, cl6, rfl, hL6, hc6, hA6, hB⟩
  have HA6 := Lib.hid hA6
  have HL106 := Lib.hid hL6
  have S7 := Lib.hid (show St w W7 [(g1, some topT), (gz, some M), (g0, some topT)] from (S6.out.up hB))
  have THOP := Lib.hid (HOP.out.up hB)
  clear HOP
  have HOP := THOP
  clear THOP
  clear hB S6 hA6 hL6 hc6
  go_wp2_with fail
  go_at_call 10
  refine (With_law _ g1 (some topT) Al6 nl6 cl6 (smallL L1) (S7.out.2 (g1, some topT) (by simp)) HL106.out (by have := HL106.out; have := HLS1.out; omega) HA6.out HWS1.out).mono ?_
  rintro e W8 ⟨go, rfl, hz, hB⟩
  rw [HO.out] at hz
  have S8 := Lib.hid (show St w W8 [(go, some O), (g1, some topT), (gz, some M), (g0, some topT)] from (S7.out.up hB).add hz)
  have THOP := Lib.hid (HOP.out.up hB)
  clear HOP
  have HOP := THOP
  clear THOP
  clear hB S7 hz HA6 HL106
  go_wp2_with fail
  go_at_call 24
  refine (Empty_any _ gz (some M) (S8.out.2 (gz, some M) (by simp))).mono ?_
  rintro e W9 ⟨rfl, rfl⟩
  rw [show voidB (some M) = false from rfl]
  have S9 := S8
  clear S8
  go_wp2_with fail
  go_at_call 24
  refine (Empty_any _ go (some O) (S9.out.2 (go, some O) (by simp))).mono ?_
  rintro e W10 ⟨rfl, rfl⟩
  rw [show voidB (some O) = false from rfl]
  have S10 := S9
  clear S9
  go_wp2_with fail
  go_at_call 22
  refine (place_any _ 60 _ B3.out (by omega) (by omega)).mono ?_
  rintro e w' ⟨rfl, rfl⟩
  rw [HP.out]
  go_wp2_with fail
  go_at_call 22
  refine (place_any _ 60 _ B4.out (by omega) (by omega)).mono ?_
  rintro e w' ⟨rfl, rfl⟩
  rw [HQ.out]
  go_wp2_with fail
  go_at_call 38
  refine (Join_any _ gz go (some M) (some O) (S10.out.2 (gz, some M) (by simp)) (S10.out.2 (go, some O) (by simp))).mono ?_
  rintro e W11 ⟨gj, rfl, hg, hz, hB⟩
  have S11 := Lib.hid (show St w W11 [(gj, mergeZ joinT (some M) (some O)), (go, some O), (g1, some topT), (gz, some M), (g0, some topT)] from (S10.out.up hB).add hz)
  have THOP := Lib.hid (HOP.out.up hB)
  clear HOP
  have HOP := THOP
  clear THOP
  clear hB S10 hz hg
  go_wp2_with fail
  go_at_call 18
  refine (Bound_at _ gj p q (joinT M O) (S11.out.2 (gj, mergeZ joinT (some M) (some O)) (by simp)) HP6.out HQ6.out).mono ?_
  rintro e W12 ⟨rfl, hB⟩
  obtain ⟨bi, bc, hbv⟩ := bv_form2 (bnd (joinT M O p q))
  rw [hbv]
  have HBV := Lib.hid hbv
  clear hbv
  have S12 := Lib.hid (show St w W12 [(gj, mergeZ joinT (some M) (some O)), (go, some O), (g1, some topT), (gz, some M), (g0, some topT)] from (S11.out.up hB))
  have THOP := Lib.hid (HOP.out.up hB)
  clear HOP
  have HOP := THOP
  clear THOP
  clear hB S11
  go_upto_region 11 with (fail)
  have hbb := Blk.new W12 38 #[.bool bi, .int .i64 bc]
  have hB := below_box W12 (.cells #[.bool bi, .int .i64 bc] 38)
  generalize W12.alloc (.cells #[.bool bi, .int .i64 bc] 38) = W13 at *
  have hbl := hbb.lt
  obtain ⟨gb, hgb⟩ : ∃ gb, gb = W12.heap.size := ⟨_, rfl⟩
  rw [← hgb] at hbb hbl ⊢
  have HBB := Lib.hid (show FB W13 gb 38 2 (fun k => if k = 0 then .bool bi else .int .i64 bc) from hbb)
  have S13 := Lib.hid (show St w W13 [(gj, mergeZ joinT (some M) (some O)), (go, some O), (g1, some topT), (gz, some M), (g0, some topT)] from (S12.out.up hB))
  have THOP := Lib.hid (HOP.out.up hB)
  clear HOP
  have HOP := THOP
  clear THOP
  clear hB S12 hgb hbb hbl
  go_wp2_with fail
  go_at_call 41
  refine (Reach_any _ gz M _ q (S13.out.2 (gz, some M) (by simp)) HQ6.out).mono ?_
  rintro e W14 ⟨gr, rfl, hg, hv, hB⟩
  have HVgr := Lib.hid hv
  have S14 := Lib.hid (show St w W14 [(gj, mergeZ joinT (some M) (some O)), (go, some O), (g1, some topT), (gz, some M), (g0, some topT)] from (S13.out.up hB))
  have THOP := Lib.hid (HOP.out.up hB)
  clear HOP
  have HOP := THOP
  clear THOP
  have THBB := Lib.hid (HBB.out.up hB)
  clear HBB
  have HBB := THBB
  clear THBB
  clear hB S13 hg hv
  go_wp2_with fail
  go_at_call 41
  refine (Reach_any _ go O _ q (S14.out.2 (go, some O) (by simp)) HQ6.out).mono ?_
  rintro e W15 ⟨gs, rfl, hg, hv, hB⟩
  have HVgs := Lib.hid hv
  have S15 := Lib.hid (show St w W15 [(gj, mergeZ joinT (some M) (some O)), (go, some O), (g1, some topT), (gz, some M), (g0, some topT)] from (S14.out.up hB))
  have THOP := Lib.hid (HOP.out.up hB)
  clear HOP
  have HOP := THOP
  clear THOP
  have THBB := Lib.hid (HBB.out.up hB)
  clear HBB
  have HBB := THBB
  clear THBB
  have THVgr := Lib.hid (HVgr.out.up hB)
  clear HVgr
  have HVgr := THVgr
  clear THVgr
  clear hB S14 hg hv
  go_wp2_with fail
  go_at_call 13
  refine (meets_yes _ gj (joinT M O) (S15.out.2 (gj, mergeZ joinT (some M) (some O)) (by simp)) gr (reachV M q) HVgr.out (HTI.out.toTight.i64r q) (meets_join (HTI.out.toTight.meets q) HTI.out.ok HTO.out.ok)).mono ?_
  rintro e W16 ⟨rfl, hB⟩
  have S16 := Lib.hid (show St w W16 [(gj, mergeZ joinT (some M) (some O)), (go, some O), (g1, some topT), (gz, some M), (g0, some topT)] from (S15.out.up hB))
  have THOP := Lib.hid (HOP.out.up hB)
  clear HOP
  have HOP := THOP
  clear THOP
  have THBB := Lib.hid (HBB.out.up hB)
  clear HBB
  have HBB := THBB
  clear THBB
  have THVgr := Lib.hid (HVgr.out.up hB)
  clear HVgr
  have HVgr := THVgr
  clear THVgr
  have THVgs := Lib.hid (HVgs.out.up hB)
  clear HVgs
  have HVgs := THVgs
  clear THVgs
  clear hB S15
  go_wp2_with fail
  go_at_call 13
  refine (meets_yes _ gj (joinT M O) (S16.out.2 (gj, mergeZ joinT (some M) (some O)) (by simp)) gs (reachV O q) HVgs.out (HTO.out.i64r q) (meets_join2 (HTO.out.meets q) HTI.out.ok HTO.out.ok)).mono ?_
  rintro e W17 ⟨rfl, hB⟩
  have S17 := Lib.hid (show St w W17 [(gj, mergeZ joinT (some M) (some O)), (go, some O), (g1, some topT), (gz, some M), (g0, some topT)] from (S16.out.up hB))
  have THOP := Lib.hid (HOP.out.up hB)
  clear HOP
  have HOP := THOP
  clear THOP
  have THBB := Lib.hid (HBB.out.up hB)
  clear HBB
  have HBB := THBB
  clear THBB
  have THVgr := Lib.hid (HVgr.out.up hB)
  clear HVgr
  have HVgr := THVgr
  clear THVgr
  have THVgs := Lib.hid (HVgs.out.up hB)
  clear HVgs
  have HVgs := THVgs
  clear THVgs
  clear hB S16
  go_upto_region 15 with (fail)
  have y0 := FB.cell HBB.out 0 (by omega)
  have y1 := FB.cell HBB.out 1 (by omega)
  simp only [if_true, Nat.one_ne_zero, if_false] at y0 y1
  have r0 := HVgr.out.at_ p HP6.out
  have r1 := HVgr.out.at_ q HQ6.out
  have s0 := HVgs.out.at_ p HP6.out
  have s1 := HVgs.out.at_ q HQ6.out
  have e0 := reachV_rng HTI.out.toTight q p HP6.out
  have e1 := reachV_rng HTI.out.toTight q q HQ6.out
  have e2 := reachV_rng HTO.out q p HP6.out
  have e3 := reachV_rng HTO.out q q HQ6.out
  have hjw := HJW.out
  rw [HBV.out] at hjw
  clear HJW HBV
  generalize joinT M O p q = jv at hjw
  generalize reachV M q p = rp at *
  generalize reachV M q q = rq at *
  generalize reachV O q p = sp at *
  generalize reachV O q q = sq at *
  obtain ⟨e01, e02⟩ := e0
  obtain ⟨e11, e12⟩ := e1
  obtain ⟨e21, e22⟩ := e2
  obtain ⟨e31, e32⟩ := e3
  simp only [Value.agg.injEq, Array.mk.injEq, List.cons.injEq, Value.bool.injEq, Value.int.injEq, true_and, and_true] at hjw
  obtain ⟨⟨g1, g2⟩, g3, g4⟩ := hjw
  have q1 : decide (rp - rq < 281474976710656) = true := decide_eq_true (by omega)
  have q2 : decide (sp - sq < 281474976710656) = false := decide_eq_false (by omega)
  subst g1
  clear g2 g3 g4 jv
  have hq15 : ∀ (nn : Nat), St w (W17.drewN nn) [(gj, mergeZ joinT (some M) (some O)), (go, some O), (g1, some topT), (gz, some M), (g0, some topT)] := fun nn => S17.out.up (below_drewN' (Below.refl _ _) nn)
  have HQ15 := Lib.hid hq15
  have HOQ := Lib.hid (fun nn => HOP.out.up (below_drewN' (Below.refl W17.heap.size W17) nn))
  clear hq15
  all_goals
    go_quiet (fail)
    go_upto_region 17 with (fail)
    obtain ⟨WQ, hWQ⟩ : ∃ WQ, WQ = W17.drewN nq := ⟨_, rfl⟩
    rw [← hWQ]
    have S18 := Lib.hid (show St w WQ [(gj, mergeZ joinT (some M) (some O)), (go, some O), (g1, some topT), (gz, some M), (g0, some topT)] by rw [hWQ]; exact HQ15.out nq)
    have HOPn := Lib.hid (show OpAt2 WQ bx X (.slice A8 n8 c8) (.slice A9 n9 c9) by rw [hWQ]; exact HOQ.out nq)
    clear hWQ y0 y1 r0 r1 s0 s1 HQ15 HOQ S17 HOP HBB HVgr HVgs
    have HOP := HOPn
    clear HOPn
    have v8 := HOP.out.u
    go_wp2_with fail
    go_at_call 43
    refine (near_any _ A8 n8 c8 L8 L8L.out (I8.out.below S18.out.1)).mono ?_
    rintro e W19 ⟨gu, rfl, hg, hv, hB⟩
    have HBgu := Lib.hid hv
    clear v8
    have S19 := Lib.hid (show St w W19 [(gj, mergeZ joinT (some M) (some O)), (go, some O), (g1, some topT), (gz, some M), (g0, some topT)] from (S18.out.up hB))
    have THOP := Lib.hid (HOP.out.up hB)
    clear HOP
    have HOP := THOP
    clear THOP
    clear hB S18 hg hv
    have v8 := HOP.out.d
    go_wp2_with fail
    go_at_call 43
    refine (near_any _ A9 n9 c9 L9 L9L.out (I9.out.below S19.out.1)).mono ?_
    rintro e W20 ⟨gd, rfl, hg, hv, hB⟩
    have HBgd := Lib.hid hv
    clear v8
    have S20 := Lib.hid (show St w W20 [(gj, mergeZ joinT (some M) (some O)), (go, some O), (g1, some topT), (gz, some M), (g0, some topT)] from (S19.out.up hB))
    have THOP := Lib.hid (HOP.out.up hB)
    clear HOP
    have HOP := THOP
    clear THOP
    have THBgu := Lib.hid (HBgu.out.up hB)
    clear HBgu
    have HBgu := THBgu
    clear THBgu
    clear hB S19 hg hv
    have v3 := HOP.out.x
    go_wp2_with fail
    go_at_call 22
    refine (place_any _ 59 _ HX.out (by omega) (by omega)).mono ?_
    rintro e w' ⟨rfl, rfl⟩
    obtain ⟨m, hm, hm59⟩ : ∃ m : Nat, X % 59 = m ∧ m < 59 := ⟨(X % 59).toNat, by omega, by omega⟩
    rw [hm]
    clear hm v3
    go_upto_region 20 with (fail)
    obtain ⟨v, hv1⟩ : ∃ v : Nat, v = m + 1 := ⟨_, rfl⟩
    rw [show (1 : Int) + (m : Int) = (v : Int) by omega]
    have HV1 := Lib.hid (show 1 ≤ v by omega)
    have HV6 := Lib.hid (show v < 60 by omega)
    have hv0 : (0 : Int) ≤ v := by omega
    have hv61 : (v : Int) < 60 := by omega
    clear hv1 hm59
    have HPS := Lib.hid (near_small v L8 L9)
    have HPZ := Lib.hid (show putZ (some M) v (othR v (nearF L8)) (othR v (nearF L9)) = if negT (putT M v (othR v (nearF L8)) (othR v (nearF L9))) then none else some (putT M v (othR v (nearF L8)) (othR v (nearF L9))) from rfl)
    go_wp2_with fail
    go_at_call 16
    refine (Put_law _ gz v gu gd (some M) (nearF L8) (nearF L9) (S20.out.2 (gz, some M) (by simp)) HV6.out HV1.out HBgu.out HBgd.out (fun q hq hqx h => near_rngB h) (fun q hq hqx h => near_rngB h) HPS.out.ok).mono ?_
    rintro e W21 ⟨gn, rfl, hz, hB⟩
    rw [HPZ.out] at hz
    cases hneg : negT (putT M v (othR v (nearF L8)) (othR v (nearF L9)))
    · rw [hneg] at hz
      replace hz : ZoneAt W21 gn (some (putT M v (othR v (nearF L8)) (othR v (nearF L9)))) := hz
      have HTN := Lib.hid (HTI.out.put HV6.out HPS.out hneg)
      have HEX := Lib.hid (ext_put HTI.out HV1.out HV6.out HPS.out hneg q)
      have HUP := Lib.hid (fun k (hk : k < 60) (hkv : k ≠ v) => put_up (M := M) HPS.out.ok hk hkv (HTI.out.diag k hk))
      have HDN := Lib.hid (fun k (hk : k < 60) (hkv : k ≠ v) => put_down (M := M) HPS.out.ok hk hkv (HTI.out.diag k hk))
      clear hneg HPZ
      generalize putT M v (othR v (nearF L8)) (othR v (nearF L9)) = N at *
      have S21 := Lib.hid (show St w W21 [(gn, some N), (gj, mergeZ joinT (some M) (some O)), (go, some O), (g1, some topT), (gz, some M), (g0, some topT)] from (S20.out.up hB).add hz)
      have THOP := Lib.hid (HOP.out.up hB)
      clear HOP
      have HOP := THOP
      clear THOP
      have THBgu := Lib.hid (HBgu.out.up hB)
      clear HBgu
      have HBgu := THBgu
      clear THBgu
      have THBgd := Lib.hid (HBgd.out.up hB)
      clear HBgd
      have HBgd := THBgd
      clear THBgd
      clear hB S20 hz
      go_wp2_with fail
      go_at_call 24
      refine (Empty_any _ gn (some N) (S21.out.2 (gn, some N) (by simp))).mono ?_
      rintro e W22 ⟨rfl, rfl⟩
      rw [show voidB (some N) = false from rfl]
      have S22 := S21
      clear S21
      go_wp2_with fail
      go_at_call 41
      refine (Reach_any _ gn N _ q (S22.out.2 (gn, some N) (by simp)) HQ6.out).mono ?_
      rintro e W23 ⟨gt, rfl, hg, hv, hB⟩
      have HVgt := Lib.hid hv
      have S23 := Lib.hid (show St w W23 [(gn, some N), (gj, mergeZ joinT (some M) (some O)), (go, some O), (g1, some topT), (gz, some M), (g0, some topT)] from (S22.out.up hB))
      have THOP := Lib.hid (HOP.out.up hB)
      clear HOP
      have HOP := THOP
      clear THOP
      have THBgu := Lib.hid (HBgu.out.up hB)
      clear HBgu
      have HBgu := THBgu
      clear THBgu
      have THBgd := Lib.hid (HBgd.out.up hB)
      clear HBgd
      have HBgd := THBgd
      clear THBgd
      clear hB S22 hg hv
      have HTM := Lib.hid (HTN.out.meets q)
      have HTR := Lib.hid (reachV_rng HTN.out q)
      have HTJ := Lib.hid (HTN.out.i64r q)
      generalize reachV N q = b at *
      have HCU := Lib.hid (show ∀ k, k < 60 → k ≠ v → (nearF L8 k).1 = true → b v - b k ≤ (nearF L8 k).2 from fun k hk hkv h => by
        have h1 := HUP.out k hk hkv
        rw [oth_at2 hkv h] at h1
        have h2 := nearF_rng h
        have := HTM.out v k HV6.out hk (by omega)
        omega)
      have HCD := Lib.hid (show ∀ k, k < 60 → k ≠ v → (nearF L9 k).1 = true → b k - b v ≤ (nearF L9 k).2 from fun k hk hkv h => by
        have h1 := HDN.out k hk hkv
        rw [oth_at2 hkv h] at h1
        have h2 := nearF_rng h
        have := HTM.out k v hk HV6.out (by omega)
        omega)
      clear HUP HDN
      go_wp2_with fail
      go_loopw [25] (fun i wr => ∃ k : Nat, k ≤ 60 ∧ i = .int .i64 k ∧ Below W23.heap.size W23 wr) (fun i _ => (60 - intOf i).toNat)
      case atStart => exact ⟨0, by omega, rfl, Below.refl _ _⟩
      case round =>
        obtain ⟨k, hk, rfl, hB⟩ := hrel
        have hk0 : (0 : Int) ≤ k := by omega
        by_cases hlt : k < 60
        · have hk6 : (k : Int) < 60 := by omega
          have HKT := Lib.hid hlt
          have HB := Lib.hid hB
          have a0 := (BvAt.up HBgu.out hB).is_ k hlt
          have a1 := (BvAt.up HBgu.out hB).c_ k hlt
          have d0 := (BvAt.up HBgd.out hB).is_ k hlt
          have d1 := (BvAt.up HBgd.out hB).c_ k hlt
          have b0 := (HVgt.out.up hB).at_ k hlt
          have b1 := (HVgt.out.up hB).at_ v HV6.out
          have hcu := HCU.out k hlt
          have hcd := HCD.out k hlt
          have rk := HTR.out k hlt
          have rv := HTR.out v HV6.out
          clear hB hlt
          generalize (nearF L8 k).1 = ui at *
          generalize (nearF L8 k).2 = uc at *
          generalize (nearF L9 k).1 = di at *
          generalize (nearF L9 k).2 = dc at *
          generalize hbk : b k = bk at *
          generalize hbv : b v = bw at *
          obtain ⟨rk1, rk2⟩ := rk
          obtain ⟨rv1, rv2⟩ := rv
          have hway : ((k : Int) != (v : Int)) = false ∧ ((k : Int) == (v : Int)) = true ∨ (((k : Int) != (v : Int)) = true ∧ ((k : Int) == (v : Int)) = false ∧ (ui = false ∨ (ui = true ∧ decide (uc < bw - bk) = false)) ∧ (di = false ∨ (di = true ∧ decide (dc < bk - bw) = false))) := by
            by_cases e : k = v
            · exact .inl ⟨by rw [e]; exact bne_self_eq_false _, by rw [e]; exact beq_self_eq_true _⟩
            · refine .inr ⟨by rw [bne_iff_ne]; omega, by rw [beq_eq_false_iff_ne]; omega, ?_, ?_⟩
              · cases ui
                · exact .inl rfl
                · exact .inr ⟨rfl, decide_eq_false (by have := hcu e rfl; omega)⟩
              · cases di
                · exact .inl rfl
                · exact .inr ⟨rfl, decide_eq_false (by have := hcd e rfl; omega)⟩
          clear hcu hcd hbk hbv
          rcases hway with ⟨t1, t2⟩ | ⟨t1, t2, hu, hd⟩
          · go_upto_region 29 with (fail)
            go_quiet (fail)
            have HB5 := Lib.hid (below_drewN' HB.out nq)
            go_wp2_with fail
            go_roundw
            case rel => exact ⟨k + 1, by have := HKT.out; omega, by go_num, HB5.out⟩
            case measure => simp [intOf]; omega
          · go_upto_region 29 with (fail)
            rcases hu with rfl | ⟨rfl, tu⟩ <;> rcases hd with rfl | ⟨rfl, td⟩
            all_goals
              go_quiet (fail)
              have HB5 := Lib.hid (below_drewN' HB.out nq)
              go_wp2_with fail
              go_roundw
              case rel => exact ⟨k + 1, by have := HKT.out; omega, by go_num, HB5.out⟩
              case measure => simp [intOf]; omega
        · obtain rfl : k = 60 := by omega
          have SE := Lib.hid (S23.out.up hB)
          have HVe := Lib.hid (HVgt.out.up hB)
          clear hB
          go_wp2_with fail
          go_at_call 42
          have hbox := below_box wr (.cells #[.int .i64 v] 3)
          refine (extend_any _ gz gt M b (some ⟨wr.heap.size, 0, none⟩) 1 1 [(v : Int)] ((SE.out.up hbox).2 (gz, some M) (by simp)) (HVe.out.up hbox) rfl (by omega) (nums_new wr v _) HTI.out.toTight HEX.out).mono ?_
          rintro e We ⟨ge2, rfl, hB⟩
          have hBe := hbox.trans (hB.mono hbox.size)
          have SF := Lib.hid (SE.out.up hBe)
          have HVf := Lib.hid (HVe.out.up hBe)
          clear hbox hB hBe SE HVe
          go_wp2_with fail
          go_at_call 13
          refine (meets_yes _ gn N (SF.out.2 (gn, some N) (by simp)) gt b HVf.out HTJ.out HTM.out).mono ?_
          rintro e WY ⟨rfl, hB⟩
          have SY := Lib.hid (SF.out.1.trans (hB.mono SF.out.1.size))
          clear hB
          go_wp2_with fail
          go_at_call 14
          refine (awake_any _).mono ?_
          rintro e WZ ⟨rfl, hB⟩
          have SZ := Lib.hid (SY.out.trans (hB.mono SY.out.size))
          clear hB
          go_wp2_with fail
          go_ret
          exact ⟨rfl, SZ.out⟩
    · rw [hneg] at hz
      replace hz : ZoneAt W21 gn none := hz
      clear hneg HPZ
      have S21 := Lib.hid (show St w W21 [(gn, none), (gj, mergeZ joinT (some M) (some O)), (go, some O), (g1, some topT), (gz, some M), (g0, some topT)] from (S20.out.up hB).add hz)
      clear hB S20 hz
      go_wp2_with fail
      go_at_call 24
      refine (Empty_any _ gn none (S21.out.2 (gn, none) (by simp))).mono ?_
      rintro e W22 ⟨rfl, rfl⟩
      rw [show voidB none = true from rfl]
      have S22 := S21
      clear S21
      go_wp2_with fail
      go_at_call 14
      refine (awake_any _).mono ?_
      rintro e W23 ⟨rfl, hB⟩
      have S23 := Lib.hid (show St w W23 [(gn, none), (gj, mergeZ joinT (some M) (some O)), (go, some O), (g1, some topT), (gz, some M), (g0, some topT)] from (S22.out.up hB))
      clear hB S22
      go_wp2_with fail
      go_ret
      exact ⟨rfl, S23.out.1⟩
theorem zoneRenews_walk (w : World) (A0 : Option Addr) (n0 c0 : Nat) (L0 : List Con) (i0 : ConIn w A0 n0 c0 L0) (A1 : Option Addr) (n1 c1 : Nat) (L1 : List Con) (i1 : ConIn w A1 n1 c1 L1) (k0 k1 k2 X Y C : Int) (hX : I64 X) (A6 A7 A8 A9 : Option Addr) (n6 c6 n7 c7 n8 c8 n9 c9 : Nat) (L8 : List (Bool × Int)) (l8 : L8.length = n8) (i8 : BsAt w A8 L8) (L9 : List (Bool × Int)) (l9 : L9.length = n9) (i9 : BsAt w A9 L9) (x3 : Int) (b3 : I64 x3) (x4 : Int) (b4 : I64 x4) :
    Calls Try.prog 7 #[.slice A0 n0 c0, .slice A1 n1 c1, .agg #[.int .i64 k0, .int .i64 k1, .int .i64 k2, .int .i64 X, .int .i64 Y, .int .i64 C, .slice A6 n6 c6, .slice A7 n7 c7, .slice A8 n8 c8, .slice A9 n9 c9], .int .i64 x3, .int .i64 x4] w (True_ w) := by
  cases h : withZ (some topT) (smallL L0) with
  | none => exact zoneRenews_10 w A0 n0 c0 L0 i0 A1 n1 c1 L1 i1 k0 k1 k2 X Y C hX A6 A7 A8 A9 n6 c6 n7 c7 n8 c8 n9 c9 L8 l8 i8 L9 l9 i9 x3 b3 x4 b4 h _ rfl
  | some M =>
    cases ho : withZ (some topT) (smallL L1) with
    | none => exact zoneRenews_01 w A0 n0 c0 L0 i0 A1 n1 c1 L1 i1 k0 k1 k2 X Y C hX A6 A7 A8 A9 n6 c6 n7 c7 n8 c8 n9 c9 L8 l8 i8 L9 l9 i9 x3 b3 x4 b4 M h ho
    | some O =>
      obtain ⟨p, hp, hp6⟩ := lw_mod x3
      obtain ⟨q, hq, hq6⟩ := lw_mod x4
      rcases join_ways (Cl.tight (small_cl h)) (Cl.tight (small_cl ho)) hp6 hq6 with g | g | g | g
      · exact zoneRenews_w1 w A0 n0 c0 L0 i0 A1 n1 c1 L1 i1 k0 k1 k2 X Y C hX A6 A7 A8 A9 n6 c6 n7 c7 n8 c8 n9 c9 L8 l8 i8 L9 l9 i9 x3 b3 x4 b4 M h O ho p q hp hp6 hq hq6 g
      · exact zoneRenews_w2 w A0 n0 c0 L0 i0 A1 n1 c1 L1 i1 k0 k1 k2 X Y C hX A6 A7 A8 A9 n6 c6 n7 c7 n8 c8 n9 c9 L8 l8 i8 L9 l9 i9 x3 b3 x4 b4 M h O ho p q hp hp6 hq hq6 g
      · exact zoneRenews_w3 w A0 n0 c0 L0 i0 A1 n1 c1 L1 i1 k0 k1 k2 X Y C hX A6 A7 A8 A9 n6 c6 n7 c7 n8 c8 n9 c9 L8 l8 i8 L9 l9 i9 x3 b3 x4 b4 M h O ho p q hp hp6 hq hq6 g
      · exact zoneRenews_w4 w A0 n0 c0 L0 i0 A1 n1 c1 L1 i1 k0 k1 k2 X Y C hX A6 A7 A8 A9 n6 c6 n7 c7 n8 c8 n9 c9 L8 l8 i8 L9 l9 i9 x3 b3 x4 b4 M h O ho p q hp hp6 hq hq6 g
end Go.Proofs.Ytockoolcdhgopaa
