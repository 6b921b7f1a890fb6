/- The document's own NotZero, Bytes. (Written by gen_spmakes.py.) -/
import Derived.Test.YtjhgjplhhhgfcaaSpWh
namespace Go.Proofs.Ytjhgjplhhhgfcaa
open Go.ChangeShapes Go.WideShapes Go.ChangeAt Go.RowKit
open Spn
namespace Spc
set_option linter.unusedVariables false
set_option maxRecDepth 100000
theorem rd_low (r : E) (h : r.lo ≤ r.hi) : rd (sp (lowE r)) = lowE r := by
  obtain ⟨h1, h2, h3⟩ := lowE_ok r h
  exact rd_sp_small _ h1 (by unfold MX; omega) (by unfold MX; omega)
theorem nz_low (r : E) (h : r.lo ≤ r.hi) : nzX true r = decide (0 < (lowE r).lo) := by
  obtain ⟨h1, h2, h3⟩ := lowE_ok r h
  show tells (sgX (lowE r)) 4 = _
  rw [tells_4]
  by_cases g : 0 < (lowE r).lo
  · rw [decide_eq_true (.inl g), decide_eq_true g]
  · rw [decide_eq_false (by omega), decide_eq_false g]
theorem nz_wide (r : E) : nzX false r = (decide (0 < r.lo) || decide (r.hi < 0)) := by
  show tells (sgX r) 4 = _
  rw [tells_4]
  by_cases g1 : 0 < r.lo <;> by_cases g2 : r.hi < 0 <;> simp [g1, g2]
set_option maxHeartbeats 2000000 in
theorem refNotZero_any (n : Bool) (lo hi : Int) (nl nh : Bool) (w : World) : Calls Try.prog 24 #[.bool n, .agg #[.int .i64 lo, .int .i64 hi, .bool nl, .bool nh]] w (RetB w (nzX n (rd ⟨lo, hi, nl, nh⟩))) := by
  have b1 := Lib.hid (Blk.new w 23 #[.int .i64 lo, .int .i64 hi, .bool nl, .bool nh])
  have H2 := Lib.hid (below_box' w (.cells #[.int .i64 lo, .int .i64 hi, .bool nl, .bool nh] 23))
  have hok := (rd_ok ⟨lo, hi, nl, nh⟩).1
  cases n
  · rw [nz_wide]
    rcases er : rd ⟨lo, hi, nl, nh⟩ with ⟨l, h⟩
    have HE := Lib.hid (fun w => refEnds_any lo hi nl nh l h er w)
    clear hok er
    show Calls _ _ _ _ (RetB w (decide (0 < l) || decide (h < 0)))
    cases h1 : decide (0 < l) <;> cases h2 : decide (h < 0)
    all_goals
      go_enter Try.func24, Try.ntmps24
      obtain ⟨⟨c0, c1, c2, c3⟩, -, c8⟩ := cells4 b1.out
      go_wp2_with fail
      refine (HE.out _).mono ?_
      rintro e w1 ⟨rfl, hB⟩
      have B1 := Lib.hid (nx (nx H2.out hB) (below_box' w1 (.cells #[.int .i64 l, .int .i64 h] 59)))
      clear hB c0 c1 c2 c3 c8
      go_wp2_with fail
      go_ret
      exact ⟨rfl, B1.out⟩
  · rw [nz_low _ hok]
    rcases es : sp (lowE (rd ⟨lo, hi, nl, nh⟩)) with ⟨sa, sb, sn, sm⟩
    have HL := Lib.hid (fun w => refLow_any lo hi nl nh sa sb sn sm es w)
    have hrd := rd_low _ hok
    rw [es] at hrd
    rcases el : lowE (rd ⟨lo, hi, nl, nh⟩) with ⟨l, h⟩
    rw [el] at hrd
    have HE := Lib.hid (fun w => refEnds_any sa sb sn sm l h hrd w)
    clear hok es hrd el
    show Calls _ _ _ _ (RetB w (decide (0 < l)))
    go_enter Try.func24, Try.ntmps24
    obtain ⟨⟨c0, c1, c2, c3⟩, -, c8⟩ := cells4 b1.out
    go_wp2_with fail
    refine (HL.out _).mono ?_
    rintro e w1 ⟨rfl, hB⟩
    have B1 := Lib.hid (nx H2.out hB)
    clear hB c0 c1 c2 c3 c8
    go_wp2_with fail
    refine (HE.out _).mono ?_
    rintro e w2 ⟨rfl, hB⟩
    have B2 := Lib.hid (nx B1.out hB)
    clear hB
    have hf : (Instr.field 59 (.agg #[.int .i64 l, .int .i64 h]) 0).run Try.prog w2 = .ok (.int .i64 l) w2 := by kernel_rfl
    go_wp2_with fail
    go_ret
    exact ⟨rfl, B2.out⟩
set_option maxHeartbeats 1000000 in
theorem refBytes_1_true (w : World) : Calls Try.prog 25 #[.int .i64 1, .bool true] w (RetS w (-128) 127 false false) := by
  have HS := Lib.hid (fun w => Span_any (-128) 127 (by unfold I64 LEAST TOP; decide) (by unfold I64 LEAST TOP; decide) (-128) 127 false false (by kernel_rfl) w)
  have b2 := Lib.hid (Blk.new w 23 zS)
  have H2 := Lib.hid (below_box' w (.cells zS 23))
  go_enter Try.func25, Try.ntmps25
  go_wp2_with fail
  refine (HS.out _).mono ?_
  rintro e w1 ⟨rfl, hB⟩
  have X1 := Lib.hid (b2.out.up hB)
  have B1 := Lib.hid (nx H2.out hB)
  clear hB
  obtain ⟨⟨c0, c1, c2, c3⟩, ⟨c4, c5, c6, c7⟩, c8⟩ := cells4 X1.out
  go_wp2_with fail
  exact bodyPost_ret (v := .agg #[.int .i64 _, .int .i64 _, .bool _, .bool _]) (results_cell_row Try.results25 _ _ w.heap.size 23 #[.int .i64 _, .int .i64 _, .bool _, .bool _] (0, 0) _ rfl (set4 X1.out _ _ _ _) Try.underlying23 rfl (by kernel_rfl)) rfl ⟨rfl, Below.set4 B1.out (by omega) _ _ _ _⟩
set_option maxHeartbeats 1000000 in
theorem refBytes_1_false (w : World) : Calls Try.prog 25 #[.int .i64 1, .bool false] w (RetS w 0 255 false false) := by
  have HS := Lib.hid (fun w => Span_any 0 255 (by unfold I64 LEAST TOP; decide) (by unfold I64 LEAST TOP; decide) 0 255 false false (by kernel_rfl) w)
  have b2 := Lib.hid (Blk.new w 23 zS)
  have H2 := Lib.hid (below_box' w (.cells zS 23))
  go_enter Try.func25, Try.ntmps25
  go_wp2_with fail
  refine (HS.out _).mono ?_
  rintro e w1 ⟨rfl, hB⟩
  have X1 := Lib.hid (b2.out.up hB)
  have B1 := Lib.hid (nx H2.out hB)
  clear hB
  obtain ⟨⟨c0, c1, c2, c3⟩, ⟨c4, c5, c6, c7⟩, c8⟩ := cells4 X1.out
  go_wp2_with fail
  exact bodyPost_ret (v := .agg #[.int .i64 _, .int .i64 _, .bool _, .bool _]) (results_cell_row Try.results25 _ _ w.heap.size 23 #[.int .i64 _, .int .i64 _, .bool _, .bool _] (0, 0) _ rfl (set4 X1.out _ _ _ _) Try.underlying23 rfl (by kernel_rfl)) rfl ⟨rfl, Below.set4 B1.out (by omega) _ _ _ _⟩
set_option maxHeartbeats 1000000 in
theorem refBytes_2_true (w : World) : Calls Try.prog 25 #[.int .i64 2, .bool true] w (RetS w (-32768) 32767 false false) := by
  have HS := Lib.hid (fun w => Span_any (-32768) 32767 (by unfold I64 LEAST TOP; decide) (by unfold I64 LEAST TOP; decide) (-32768) 32767 false false (by kernel_rfl) w)
  have b2 := Lib.hid (Blk.new w 23 zS)
  have H2 := Lib.hid (below_box' w (.cells zS 23))
  go_enter Try.func25, Try.ntmps25
  go_wp2_with fail
  refine (HS.out _).mono ?_
  rintro e w1 ⟨rfl, hB⟩
  have X1 := Lib.hid (b2.out.up hB)
  have B1 := Lib.hid (nx H2.out hB)
  clear hB
  obtain ⟨⟨c0, c1, c2, c3⟩, ⟨c4, c5, c6, c7⟩, c8⟩ := cells4 X1.out
  go_wp2_with fail
  exact bodyPost_ret (v := .agg #[.int .i64 _, .int .i64 _, .bool _, .bool _]) (results_cell_row Try.results25 _ _ w.heap.size 23 #[.int .i64 _, .int .i64 _, .bool _, .bool _] (0, 0) _ rfl (set4 X1.out _ _ _ _) Try.underlying23 rfl (by kernel_rfl)) rfl ⟨rfl, Below.set4 B1.out (by omega) _ _ _ _⟩
set_option maxHeartbeats 1000000 in
theorem refBytes_2_false (w : World) : Calls Try.prog 25 #[.int .i64 2, .bool false] w (RetS w 0 65535 false false) := by
  have HS := Lib.hid (fun w => Span_any 0 65535 (by unfold I64 LEAST TOP; decide) (by unfold I64 LEAST TOP; decide) 0 65535 false false (by kernel_rfl) w)
  have b2 := Lib.hid (Blk.new w 23 zS)
  have H2 := Lib.hid (below_box' w (.cells zS 23))
  go_enter Try.func25, Try.ntmps25
  go_wp2_with fail
  refine (HS.out _).mono ?_
  rintro e w1 ⟨rfl, hB⟩
  have X1 := Lib.hid (b2.out.up hB)
  have B1 := Lib.hid (nx H2.out hB)
  clear hB
  obtain ⟨⟨c0, c1, c2, c3⟩, ⟨c4, c5, c6, c7⟩, c8⟩ := cells4 X1.out
  go_wp2_with fail
  exact bodyPost_ret (v := .agg #[.int .i64 _, .int .i64 _, .bool _, .bool _]) (results_cell_row Try.results25 _ _ w.heap.size 23 #[.int .i64 _, .int .i64 _, .bool _, .bool _] (0, 0) _ rfl (set4 X1.out _ _ _ _) Try.underlying23 rfl (by kernel_rfl)) rfl ⟨rfl, Below.set4 B1.out (by omega) _ _ _ _⟩
set_option maxHeartbeats 1000000 in
theorem refBytes_4_true (w : World) : Calls Try.prog 25 #[.int .i64 4, .bool true] w (RetS w (-2147483648) 2147483647 false false) := by
  have HS := Lib.hid (fun w => Span_any (-2147483648) 2147483647 (by unfold I64 LEAST TOP; decide) (by unfold I64 LEAST TOP; decide) (-2147483648) 2147483647 false false (by kernel_rfl) w)
  have b2 := Lib.hid (Blk.new w 23 zS)
  have H2 := Lib.hid (below_box' w (.cells zS 23))
  go_enter Try.func25, Try.ntmps25
  go_wp2_with fail
  refine (HS.out _).mono ?_
  rintro e w1 ⟨rfl, hB⟩
  have X1 := Lib.hid (b2.out.up hB)
  have B1 := Lib.hid (nx H2.out hB)
  clear hB
  obtain ⟨⟨c0, c1, c2, c3⟩, ⟨c4, c5, c6, c7⟩, c8⟩ := cells4 X1.out
  go_wp2_with fail
  exact bodyPost_ret (v := .agg #[.int .i64 _, .int .i64 _, .bool _, .bool _]) (results_cell_row Try.results25 _ _ w.heap.size 23 #[.int .i64 _, .int .i64 _, .bool _, .bool _] (0, 0) _ rfl (set4 X1.out _ _ _ _) Try.underlying23 rfl (by kernel_rfl)) rfl ⟨rfl, Below.set4 B1.out (by omega) _ _ _ _⟩
set_option maxHeartbeats 1000000 in
theorem refBytes_4_false (w : World) : Calls Try.prog 25 #[.int .i64 4, .bool false] w (RetS w 0 4294967295 false false) := by
  have HS := Lib.hid (fun w => Span_any 0 4294967295 (by unfold I64 LEAST TOP; decide) (by unfold I64 LEAST TOP; decide) 0 4294967295 false false (by kernel_rfl) w)
  have b2 := Lib.hid (Blk.new w 23 zS)
  have H2 := Lib.hid (below_box' w (.cells zS 23))
  go_enter Try.func25, Try.ntmps25
  go_wp2_with fail
  refine (HS.out _).mono ?_
  rintro e w1 ⟨rfl, hB⟩
  have X1 := Lib.hid (b2.out.up hB)
  have B1 := Lib.hid (nx H2.out hB)
  clear hB
  obtain ⟨⟨c0, c1, c2, c3⟩, ⟨c4, c5, c6, c7⟩, c8⟩ := cells4 X1.out
  go_wp2_with fail
  exact bodyPost_ret (v := .agg #[.int .i64 _, .int .i64 _, .bool _, .bool _]) (results_cell_row Try.results25 _ _ w.heap.size 23 #[.int .i64 _, .int .i64 _, .bool _, .bool _] (0, 0) _ rfl (set4 X1.out _ _ _ _) Try.underlying23 rfl (by kernel_rfl)) rfl ⟨rfl, Below.set4 B1.out (by omega) _ _ _ _⟩
set_option maxHeartbeats 1000000 in
theorem refBytes_no (k : Int) (g : Bool) (h1 : k ≠ 1) (h2 : k ≠ 2) (h4 : k ≠ 4) (w : World) : Calls Try.prog 25 #[.int .i64 k, .bool g] w (RetS w 0 0 true true) := by
  have HS := Lib.hid (fun w => refFull_any w)
  have t1 : (k != 1) = true := by simpa using h1
  have t2 : (k != 2) = true := by simpa using h2
  have t4 : (k != 4) = true := by simpa using h4
  clear h1 h2 h4
  have b2 := Lib.hid (Blk.new w 23 zS)
  have H2 := Lib.hid (below_box' w (.cells zS 23))
  go_enter Try.func25, Try.ntmps25
  go_wp2_with fail
  refine (HS.out _).mono ?_
  rintro e w1 ⟨rfl, hB⟩
  have X1 := Lib.hid (b2.out.up hB)
  have B1 := Lib.hid (nx H2.out hB)
  clear hB
  obtain ⟨⟨c0, c1, c2, c3⟩, ⟨c4, c5, c6, c7⟩, c8⟩ := cells4 X1.out
  go_wp2_with fail
  exact bodyPost_ret (v := .agg #[.int .i64 _, .int .i64 _, .bool _, .bool _]) (results_cell_row Try.results25 _ _ w.heap.size 23 #[.int .i64 _, .int .i64 _, .bool _, .bool _] (0, 0) _ rfl (set4 X1.out _ _ _ _) Try.underlying23 rfl (by kernel_rfl)) rfl ⟨rfl, Below.set4 B1.out (by omega) _ _ _ _⟩
theorem refBytes_any (k : Int) (g : Bool) (a b : Int) (p q : Bool) (hr : bytesX k g = ⟨a, b, p, q⟩) (w : World) : Calls Try.prog 25 #[.int .i64 k, .bool g] w (RetS w a b p q) := by
  by_cases h1 : k = 1
  · subst h1
    cases g
    · obtain ⟨rfl, rfl, rfl, rfl⟩ := sp_eq (show (⟨0, 255, false, false⟩ : Sp) = _ from hr); exact refBytes_1_false w
    · obtain ⟨rfl, rfl, rfl, rfl⟩ := sp_eq (show (⟨-128, 127, false, false⟩ : Sp) = _ from hr); exact refBytes_1_true w
  by_cases h2 : k = 2
  · subst h2
    cases g
    · obtain ⟨rfl, rfl, rfl, rfl⟩ := sp_eq (show (⟨0, 65535, false, false⟩ : Sp) = _ from hr); exact refBytes_2_false w
    · obtain ⟨rfl, rfl, rfl, rfl⟩ := sp_eq (show (⟨-32768, 32767, false, false⟩ : Sp) = _ from hr); exact refBytes_2_true w
  by_cases h4 : k = 4
  · subst h4
    cases g
    · obtain ⟨rfl, rfl, rfl, rfl⟩ := sp_eq (show (⟨0, 4294967295, false, false⟩ : Sp) = _ from hr); exact refBytes_4_false w
    · obtain ⟨rfl, rfl, rfl, rfl⟩ := sp_eq (show (⟨-2147483648, 2147483647, false, false⟩ : Sp) = _ from hr); exact refBytes_4_true w
  unfold bytesX at hr
  rw [if_neg h1, if_neg h2, if_neg h4] at hr
  obtain ⟨rfl, rfl, rfl, rfl⟩ := sp_eq (show fullS = _ from hr)
  exact refBytes_no k g h1 h2 h4 w
end Spc
end Go.Proofs.Ytjhgjplhhhgfcaa
