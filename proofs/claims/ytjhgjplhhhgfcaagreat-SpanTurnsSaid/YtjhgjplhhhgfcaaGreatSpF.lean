/- Contracts of package span: Extend. -/
import Derived.Test.YtjhgjplhhhgfcaaGreatSpE
namespace Go.Proofs.YtjhgjplhhhgfcaaGreat
open Go.ChangeShapes Go.WideShapes Go.ChangeAt Go.RowKit
open Spn
namespace Spc
set_option linter.unusedVariables false
set_option maxRecDepth 100000
theorem ints_any (k a b : Int) (hk : k = 8 ∨ k = 16 ∨ k = 32) (hr : roomE k = ⟨a, b⟩) (w : World) : Calls Tryz.prog 34 #[.int .i64 k] w (RetE w a b) := by
  unfold roomE at hr
  rcases hk with rfl | rfl | rfl <;> (obtain ⟨rfl, rfl⟩ := e_eq hr)
  · exact int_8 w
  · exact int_16 w
  · exact int_32 w
set_option maxHeartbeats 1000000 in
theorem ex_no (k : Int) (n : Bool) (lo hi : Int) (nl nh : Bool) (h8 : k ≠ 8) (h16 : k ≠ 16) (h32 : k = 32 → n = true) (w : World) : Calls Tryz.prog 10 #[.int .i64 k, .bool n, .agg #[.int .i64 lo, .int .i64 hi, .bool nl, .bool nh]] w (RetS w 0 0 true true) := by
  have b1 := Lib.hid ((Blk.new w 23 #[.int .i64 lo, .int .i64 hi, .bool nl, .bool nh]).alloc (.cells zS 23))
  have b2 := Lib.hid (new2 w (.cells #[.int .i64 lo, .int .i64 hi, .bool nl, .bool nh] 23) 23 zS)
  have H2 := Lib.hid (box2 w (.cells #[.int .i64 lo, .int .i64 hi, .bool nl, .bool nh] 23) (.cells zS 23))
  have HF := Lib.hid (fun w => full_any w)
  have t8 : (k == 8) = false := by simpa using h8
  have t16 : (k == 16) = false := by simpa using h16
  clear h8 h16
  by_cases hq : k = 32
  · have hn := h32 hq
    subst hn
    subst hq
    clear h32
    go_enter Tryz.func10, Tryz.ntmps10
    go_wp2_with fail
    refine (HF.out _).mono ?_
    rintro e w1 ⟨rfl, hB⟩
    have X1_ := Lib.hid (b2.out.up hB)
    have B2_ := Lib.hid (nx H2.out hB)
    clear hB
    obtain ⟨⟨c3_, c4_, c5_, c6_⟩, ⟨c7_, c8_, c9_, c10_⟩, c11_⟩ := cells4 X1_.out
    go_wp2_with fail
    exact bodyPost_ret (v := .agg #[.int .i64 _, .int .i64 _, .bool _, .bool _]) (results_cell_row Tryz.results10 _ _ (w.heap.size + 1) 23 #[.int .i64 _, .int .i64 _, .bool _, .bool _] (0, 0) _ rfl (set4 X1_.out _ _ _ _) Tryz.underlying23 rfl (by kernel_rfl)) rfl ⟨rfl, Below.set4 B2_.out (by omega) _ _ _ _⟩
  · have t32 : (k == 32) = false := by simpa using hq
    clear h32 hq
    go_enter Tryz.func10, Tryz.ntmps10
    go_wp2_with fail
    refine (HF.out _).mono ?_
    rintro e w1 ⟨rfl, hB⟩
    have X1_ := Lib.hid (b2.out.up hB)
    have B2_ := Lib.hid (nx H2.out hB)
    clear hB
    obtain ⟨⟨c3_, c4_, c5_, c6_⟩, ⟨c7_, c8_, c9_, c10_⟩, c11_⟩ := cells4 X1_.out
    go_wp2_with fail
    exact bodyPost_ret (v := .agg #[.int .i64 _, .int .i64 _, .bool _, .bool _]) (results_cell_row Tryz.results10 _ _ (w.heap.size + 1) 23 #[.int .i64 _, .int .i64 _, .bool _, .bool _] (0, 0) _ rfl (set4 X1_.out _ _ _ _) Tryz.underlying23 rfl (by kernel_rfl)) rfl ⟨rfl, Below.set4 B2_.out (by omega) _ _ _ _⟩
set_option maxHeartbeats 4000000 in
theorem ex_single (k : Int) (n : Bool) (hk : (k = 8 ∧ n = false) ∨ (k = 16 ∧ n = false) ∨ (k = 32 ∧ n = false) ∨ (k = 8 ∧ n = true) ∨ (k = 16 ∧ n = true)) (lo hi : Int) (nl nh : Bool) (a b : Int) (p q : Bool) (hs : (rd ⟨lo, hi, nl, nh⟩).lo = (rd ⟨lo, hi, nl, nh⟩).hi) (hr : sp ⟨extI k n (rd ⟨lo, hi, nl, nh⟩).lo, extI k n (rd ⟨lo, hi, nl, nh⟩).lo⟩ = ⟨a, b, p, q⟩) (w : World) : Calls Tryz.prog 10 #[.int .i64 k, .bool n, .agg #[.int .i64 lo, .int .i64 hi, .bool nl, .bool nh]] w (RetS w a b p q) := by
  have b1 := Lib.hid ((Blk.new w 23 #[.int .i64 lo, .int .i64 hi, .bool nl, .bool nh]).alloc (.cells zS 23))
  have b2 := Lib.hid (new2 w (.cells #[.int .i64 lo, .int .i64 hi, .bool nl, .bool nh] 23) 23 zS)
  have H2 := Lib.hid (box2 w (.cells #[.int .i64 lo, .int .i64 hi, .bool nl, .bool nh] 23) (.cells zS 23))
  rcases e1 : rd ⟨lo, hi, nl, nh⟩ with ⟨l, h⟩
  rw [e1] at hr hs
  have HA := Lib.hid (fun w => read_any lo hi nl nh l h e1 w)
  have HG := Lib.hid (fun w => single_any l h w)
  obtain rfl : l = h := hs
  rw [show (l == l) = true from beq_self_eq_true l] at HG
  have HV := Lib.hid (fun w => extend_any k n l w)
  have HS := Lib.hid (fun w => span_any (extI k n l) (extI k n l) a b p q hr w)
  generalize extI k n l = v at *
  clear hr e1
  rcases hk with ⟨rfl, rfl⟩ | ⟨rfl, rfl⟩ | ⟨rfl, rfl⟩ | ⟨rfl, rfl⟩ | ⟨rfl, rfl⟩
  all_goals
    go_enter Tryz.func10, Tryz.ntmps10
    go_wp2_with fail
    refine (HA.out _).mono ?_
    rintro e w1 ⟨rfl, hB⟩
    have X1_ := Lib.hid (b2.out.up hB)
    have B2_ := Lib.hid (nx H2.out hB)
    clear hB
    obtain ⟨⟨c3_, c4_, c5_, c6_⟩, ⟨c7_, c8_, c9_, c10_⟩, c11_⟩ := cells4 X1_.out
    go_wp2_with fail
    have X12_ := Lib.hid (X1_.out.alloc (.cells #[.int .i64 l, .int .i64 l] 30))
    have X13_ := Lib.hid (Blk.new w1 30 #[.int .i64 l, .int .i64 l])
    have B14_ := Lib.hid (nx B2_.out (below_box' _ (.cells #[.int .i64 l, .int .i64 l] 30)))
    refine (HG.out _).mono ?_
    rintro e w2 ⟨rfl, hB⟩
    have X15_ := Lib.hid (X12_.out.up hB)
    have X16_ := Lib.hid (X13_.out.up hB)
    have B17_ := Lib.hid (nx B14_.out hB)
    clear hB
    clear c3_ c4_ c5_ c6_ c7_ c8_ c9_ c10_ c11_
    obtain ⟨⟨c18_, c19_, c20_, c21_⟩, ⟨c22_, c23_, c24_, c25_⟩, c26_⟩ := cells4 X15_.out
    obtain ⟨c27_, c28_, c29_, c30_, c31_⟩ := cells2 X16_.out
    go_wp2_with fail
    refine (HV.out _).mono ?_
    rintro e w' ⟨rfl, rfl⟩
    go_wp2_with fail
    refine (HS.out _).mono ?_
    rintro e w3 ⟨rfl, hB⟩
    have X32_ := Lib.hid (X15_.out.up hB)
    have X33_ := Lib.hid (X16_.out.up hB)
    have B34_ := Lib.hid (nx B17_.out hB)
    clear hB
    clear c18_ c19_ c20_ c21_ c22_ c23_ c24_ c25_ c26_ c27_ c28_ c29_ c30_ c31_
    obtain ⟨⟨c35_, c36_, c37_, c38_⟩, ⟨c39_, c40_, c41_, c42_⟩, c43_⟩ := cells4 X32_.out
    obtain ⟨c44_, c45_, c46_, c47_, c48_⟩ := cells2 X33_.out
    go_wp2_with fail
    exact bodyPost_ret (v := .agg #[.int .i64 _, .int .i64 _, .bool _, .bool _]) (results_cell_row Tryz.results10 _ _ (w.heap.size + 1) 23 #[.int .i64 _, .int .i64 _, .bool _, .bool _] (0, 0) _ rfl (set4 X32_.out _ _ _ _) Tryz.underlying23 rfl (by kernel_rfl)) rfl ⟨rfl, Below.set4 B34_.out (by omega) _ _ _ _⟩
set_option maxHeartbeats 4000000 in
theorem ex_in_n (k : Int) (n : Bool) (hk : (k = 8 ∧ n = true) ∨ (k = 16 ∧ n = true)) (lo hi : Int) (nl nh : Bool) (a b : Int) (p q : Bool) (hs : ¬ (rd ⟨lo, hi, nl, nh⟩).lo = (rd ⟨lo, hi, nl, nh⟩).hi) (hw : withinB (rd ⟨lo, hi, nl, nh⟩) (roomE k) = true) (hr : sp (lowE (⟨(rd ⟨lo, hi, nl, nh⟩).lo, (rd ⟨lo, hi, nl, nh⟩).hi⟩)) = ⟨a, b, p, q⟩) (w : World) : Calls Tryz.prog 10 #[.int .i64 k, .bool n, .agg #[.int .i64 lo, .int .i64 hi, .bool nl, .bool nh]] w (RetS w a b p q) := by
  have b1 := Lib.hid ((Blk.new w 23 #[.int .i64 lo, .int .i64 hi, .bool nl, .bool nh]).alloc (.cells zS 23))
  have b2 := Lib.hid (new2 w (.cells #[.int .i64 lo, .int .i64 hi, .bool nl, .bool nh] 23) 23 zS)
  have H2 := Lib.hid (box2 w (.cells #[.int .i64 lo, .int .i64 hi, .bool nl, .bool nh] 23) (.cells zS 23))
  rcases e1 : rd ⟨lo, hi, nl, nh⟩ with ⟨l, h⟩
  rw [e1] at hr hs hw
  have HA := Lib.hid (fun w => read_any lo hi nl nh l h e1 w)
  have HG := Lib.hid (fun w => single_any l h w)
  have hs2 : (l == h) = false := by simpa using hs
  rw [hs2] at HG
  rcases e2 : roomE k with ⟨ra, rb⟩
  dsimp only at hr
  rw [e2] at hw
  have HI := Lib.hid (fun w => ints_any k ra rb (by omega) e2 w)
  have HW := Lib.hid (fun w => within_any l h ra rb w)
  rw [hw] at HW
  rcases e3 : lowE ⟨l, h⟩ with ⟨l2, h2⟩
  rw [e3] at hr
  have HL := Lib.hid (fun w => low_any l h l2 h2 e3 w)
  clear e3
  have HS := Lib.hid (fun w => span_any l2 h2 a b p q hr w)
  clear hr e1 hs hs2 hw e2
  rcases hk with ⟨rfl, rfl⟩ | ⟨rfl, rfl⟩
  all_goals
    go_enter Tryz.func10, Tryz.ntmps10
    go_wp2_with fail
    refine (HA.out _).mono ?_
    rintro e w1 ⟨rfl, hB⟩
    have X1_ := Lib.hid (b2.out.up hB)
    have B2_ := Lib.hid (nx H2.out hB)
    clear hB
    obtain ⟨⟨c3_, c4_, c5_, c6_⟩, ⟨c7_, c8_, c9_, c10_⟩, c11_⟩ := cells4 X1_.out
    go_wp2_with fail
    have X12_ := Lib.hid (X1_.out.alloc (.cells #[.int .i64 l, .int .i64 h] 30))
    have X13_ := Lib.hid (Blk.new w1 30 #[.int .i64 l, .int .i64 h])
    have B14_ := Lib.hid (nx B2_.out (below_box' _ (.cells #[.int .i64 l, .int .i64 h] 30)))
    have hg1 : w.heap.size ≤ w1.heap.size := by omega
    have hg2 : w.heap.size + 1 ≠ w1.heap.size := by omega
    refine (HG.out _).mono ?_
    rintro e w2 ⟨rfl, hB⟩
    have X15_ := Lib.hid (X12_.out.up hB)
    have X16_ := Lib.hid (X13_.out.up hB)
    have B17_ := Lib.hid (nx B14_.out hB)
    clear hB
    clear c3_ c4_ c5_ c6_ c7_ c8_ c9_ c10_ c11_
    obtain ⟨⟨c18_, c19_, c20_, c21_⟩, ⟨c22_, c23_, c24_, c25_⟩, c26_⟩ := cells4 X15_.out
    obtain ⟨c27_, c28_, c29_, c30_, c31_⟩ := cells2 X16_.out
    go_wp2_with fail
    refine (HI.out _).mono ?_
    rintro e w3 ⟨rfl, hB⟩
    have X32_ := Lib.hid (X15_.out.up hB)
    have X33_ := Lib.hid (X16_.out.up hB)
    have B34_ := Lib.hid (nx B17_.out hB)
    clear hB
    clear c18_ c19_ c20_ c21_ c22_ c23_ c24_ c25_ c26_ c27_ c28_ c29_ c30_ c31_
    obtain ⟨⟨c35_, c36_, c37_, c38_⟩, ⟨c39_, c40_, c41_, c42_⟩, c43_⟩ := cells4 X32_.out
    obtain ⟨c44_, c45_, c46_, c47_, c48_⟩ := cells2 X33_.out
    go_wp2_with fail
    have hg3 : w3.heap.size ≠ w1.heap.size := by omega
    have X49_ := Lib.hid (X32_.out.alloc (.cells #[.int .i64 ra, .int .i64 rb] 30))
    have X50_ := Lib.hid (X33_.out.alloc (.cells #[.int .i64 ra, .int .i64 rb] 30))
    have X51_ := Lib.hid (Blk.new w3 30 #[.int .i64 ra, .int .i64 rb])
    have B52_ := Lib.hid (nx B34_.out (below_box' _ (.cells #[.int .i64 ra, .int .i64 rb] 30)))
    refine (HW.out _).mono ?_
    rintro e w4 ⟨rfl, hB⟩
    have X53_ := Lib.hid (X49_.out.up hB)
    have X54_ := Lib.hid (X50_.out.up hB)
    have X55_ := Lib.hid (X51_.out.up hB)
    have B56_ := Lib.hid (nx B52_.out hB)
    clear hB
    clear c35_ c36_ c37_ c38_ c39_ c40_ c41_ c42_ c43_ c44_ c45_ c46_ c47_ c48_
    obtain ⟨⟨c57_, c58_, c59_, c60_⟩, ⟨c61_, c62_, c63_, c64_⟩, c65_⟩ := cells4 X53_.out
    obtain ⟨c66_, c67_, c68_, c69_, c70_⟩ := cells2 X54_.out
    obtain ⟨c71_, c72_, c73_, c74_, c75_⟩ := cells2 X55_.out
    go_wp2_with fail
    refine (HL.out _).mono ?_
    rintro e w5 ⟨rfl, hB⟩
    have X76_ := Lib.hid (X53_.out.up hB)
    have X77_ := Lib.hid (X54_.out.up hB)
    have B78_ := Lib.hid (nx B56_.out hB)
    clear hB
    clear c57_ c58_ c59_ c60_ c61_ c62_ c63_ c64_ c65_ c66_ c67_ c68_ c69_ c70_ c71_ c72_ c73_ c74_ c75_
    obtain ⟨⟨c79_, c80_, c81_, c82_⟩, ⟨c83_, c84_, c85_, c86_⟩, c87_⟩ := cells4 X76_.out
    obtain ⟨c88_, c89_, c90_, c91_, c92_⟩ := cells2 X77_.out
    go_wp2_with fail
    have X93_ := Lib.hid (set2 X77_.out (.int .i64 l2) (.int .i64 h2))
    have X94_ := Lib.hid (far2 X76_.out (by omega) (.int .i64 l2) (.int .i64 h2))
    have B95_ := Lib.hid (Below.set2 B78_.out (hg1) (.int .i64 l2) (.int .i64 h2))
    refine (HS.out _).mono ?_
    rintro e w6 ⟨rfl, hB⟩
    have X96_ := Lib.hid (X94_.out.up hB)
    have X97_ := Lib.hid (X93_.out.up hB)
    have B98_ := Lib.hid (nx B95_.out hB)
    clear hB
    clear c79_ c80_ c81_ c82_ c83_ c84_ c85_ c86_ c87_ c88_ c89_ c90_ c91_ c92_
    obtain ⟨⟨c99_, c100_, c101_, c102_⟩, ⟨c103_, c104_, c105_, c106_⟩, c107_⟩ := cells4 X96_.out
    obtain ⟨c108_, c109_, c110_, c111_, c112_⟩ := cells2 X97_.out
    go_wp2_with fail
    exact bodyPost_ret (v := .agg #[.int .i64 _, .int .i64 _, .bool _, .bool _]) (results_cell_row Tryz.results10 _ _ (w.heap.size + 1) 23 #[.int .i64 _, .int .i64 _, .bool _, .bool _] (0, 0) _ rfl (set4 X96_.out _ _ _ _) Tryz.underlying23 rfl (by kernel_rfl)) rfl ⟨rfl, Below.set4 B98_.out (by omega) _ _ _ _⟩
set_option maxHeartbeats 4000000 in
theorem ex_in_w (k : Int) (n : Bool) (hk : (k = 8 ∧ n = false) ∨ (k = 16 ∧ n = false) ∨ (k = 32 ∧ n = false)) (lo hi : Int) (nl nh : Bool) (a b : Int) (p q : Bool) (hs : ¬ (rd ⟨lo, hi, nl, nh⟩).lo = (rd ⟨lo, hi, nl, nh⟩).hi) (hw : withinB (rd ⟨lo, hi, nl, nh⟩) (roomE k) = true) (hr : sp (⟨(rd ⟨lo, hi, nl, nh⟩).lo, (rd ⟨lo, hi, nl, nh⟩).hi⟩) = ⟨a, b, p, q⟩) (w : World) : Calls Tryz.prog 10 #[.int .i64 k, .bool n, .agg #[.int .i64 lo, .int .i64 hi, .bool nl, .bool nh]] w (RetS w a b p q) := by
  have b1 := Lib.hid ((Blk.new w 23 #[.int .i64 lo, .int .i64 hi, .bool nl, .bool nh]).alloc (.cells zS 23))
  have b2 := Lib.hid (new2 w (.cells #[.int .i64 lo, .int .i64 hi, .bool nl, .bool nh] 23) 23 zS)
  have H2 := Lib.hid (box2 w (.cells #[.int .i64 lo, .int .i64 hi, .bool nl, .bool nh] 23) (.cells zS 23))
  rcases e1 : rd ⟨lo, hi, nl, nh⟩ with ⟨l, h⟩
  rw [e1] at hr hs hw
  have HA := Lib.hid (fun w => read_any lo hi nl nh l h e1 w)
  have HG := Lib.hid (fun w => single_any l h w)
  have hs2 : (l == h) = false := by simpa using hs
  rw [hs2] at HG
  rcases e2 : roomE k with ⟨ra, rb⟩
  dsimp only at hr
  rw [e2] at hw
  have HI := Lib.hid (fun w => ints_any k ra rb (by omega) e2 w)
  have HW := Lib.hid (fun w => within_any l h ra rb w)
  rw [hw] at HW
  have HS := Lib.hid (fun w => span_any l h a b p q hr w)
  clear hr e1 hs hs2 hw e2
  rcases hk with ⟨rfl, rfl⟩ | ⟨rfl, rfl⟩ | ⟨rfl, rfl⟩
  all_goals
    go_enter Tryz.func10, Tryz.ntmps10
    go_wp2_with fail
    refine (HA.out _).mono ?_
    rintro e w1 ⟨rfl, hB⟩
    have X1_ := Lib.hid (b2.out.up hB)
    have B2_ := Lib.hid (nx H2.out hB)
    clear hB
    obtain ⟨⟨c3_, c4_, c5_, c6_⟩, ⟨c7_, c8_, c9_, c10_⟩, c11_⟩ := cells4 X1_.out
    go_wp2_with fail
    have X12_ := Lib.hid (X1_.out.alloc (.cells #[.int .i64 l, .int .i64 h] 30))
    have X13_ := Lib.hid (Blk.new w1 30 #[.int .i64 l, .int .i64 h])
    have B14_ := Lib.hid (nx B2_.out (below_box' _ (.cells #[.int .i64 l, .int .i64 h] 30)))
    have hg1 : w.heap.size ≤ w1.heap.size := by omega
    have hg2 : w.heap.size + 1 ≠ w1.heap.size := by omega
    refine (HG.out _).mono ?_
    rintro e w2 ⟨rfl, hB⟩
    have X15_ := Lib.hid (X12_.out.up hB)
    have X16_ := Lib.hid (X13_.out.up hB)
    have B17_ := Lib.hid (nx B14_.out hB)
    clear hB
    clear c3_ c4_ c5_ c6_ c7_ c8_ c9_ c10_ c11_
    obtain ⟨⟨c18_, c19_, c20_, c21_⟩, ⟨c22_, c23_, c24_, c25_⟩, c26_⟩ := cells4 X15_.out
    obtain ⟨c27_, c28_, c29_, c30_, c31_⟩ := cells2 X16_.out
    go_wp2_with fail
    refine (HI.out _).mono ?_
    rintro e w3 ⟨rfl, hB⟩
    have X32_ := Lib.hid (X15_.out.up hB)
    have X33_ := Lib.hid (X16_.out.up hB)
    have B34_ := Lib.hid (nx B17_.out hB)
    clear hB
    clear c18_ c19_ c20_ c21_ c22_ c23_ c24_ c25_ c26_ c27_ c28_ c29_ c30_ c31_
    obtain ⟨⟨c35_, c36_, c37_, c38_⟩, ⟨c39_, c40_, c41_, c42_⟩, c43_⟩ := cells4 X32_.out
    obtain ⟨c44_, c45_, c46_, c47_, c48_⟩ := cells2 X33_.out
    go_wp2_with fail
    have hg3 : w3.heap.size ≠ w1.heap.size := by omega
    have X49_ := Lib.hid (X32_.out.alloc (.cells #[.int .i64 ra, .int .i64 rb] 30))
    have X50_ := Lib.hid (X33_.out.alloc (.cells #[.int .i64 ra, .int .i64 rb] 30))
    have X51_ := Lib.hid (Blk.new w3 30 #[.int .i64 ra, .int .i64 rb])
    have B52_ := Lib.hid (nx B34_.out (below_box' _ (.cells #[.int .i64 ra, .int .i64 rb] 30)))
    refine (HW.out _).mono ?_
    rintro e w4 ⟨rfl, hB⟩
    have X53_ := Lib.hid (X49_.out.up hB)
    have X54_ := Lib.hid (X50_.out.up hB)
    have X55_ := Lib.hid (X51_.out.up hB)
    have B56_ := Lib.hid (nx B52_.out hB)
    clear hB
    clear c35_ c36_ c37_ c38_ c39_ c40_ c41_ c42_ c43_ c44_ c45_ c46_ c47_ c48_
    obtain ⟨⟨c57_, c58_, c59_, c60_⟩, ⟨c61_, c62_, c63_, c64_⟩, c65_⟩ := cells4 X53_.out
    obtain ⟨c66_, c67_, c68_, c69_, c70_⟩ := cells2 X54_.out
    obtain ⟨c71_, c72_, c73_, c74_, c75_⟩ := cells2 X55_.out
    go_wp2_with fail
    refine (HS.out _).mono ?_
    rintro e w5 ⟨rfl, hB⟩
    have X76_ := Lib.hid (X53_.out.up hB)
    have X77_ := Lib.hid (X54_.out.up hB)
    have B78_ := Lib.hid (nx B56_.out hB)
    clear hB
    clear c57_ c58_ c59_ c60_ c61_ c62_ c63_ c64_ c65_ c66_ c67_ c68_ c69_ c70_ c71_ c72_ c73_ c74_ c75_
    obtain ⟨⟨c79_, c80_, c81_, c82_⟩, ⟨c83_, c84_, c85_, c86_⟩, c87_⟩ := cells4 X76_.out
    obtain ⟨c88_, c89_, c90_, c91_, c92_⟩ := cells2 X77_.out
    go_wp2_with fail
    exact bodyPost_ret (v := .agg #[.int .i64 _, .int .i64 _, .bool _, .bool _]) (results_cell_row Tryz.results10 _ _ (w.heap.size + 1) 23 #[.int .i64 _, .int .i64 _, .bool _, .bool _] (0, 0) _ rfl (set4 X76_.out _ _ _ _) Tryz.underlying23 rfl (by kernel_rfl)) rfl ⟨rfl, Below.set4 B78_.out (by omega) _ _ _ _⟩
set_option maxHeartbeats 4000000 in
theorem ex_out_n (k : Int) (n : Bool) (hk : (k = 8 ∧ n = true) ∨ (k = 16 ∧ n = true)) (lo hi : Int) (nl nh : Bool) (a b : Int) (p q : Bool) (hs : ¬ (rd ⟨lo, hi, nl, nh⟩).lo = (rd ⟨lo, hi, nl, nh⟩).hi) (hw : withinB (rd ⟨lo, hi, nl, nh⟩) (roomE k) = false) (hr : sp (lowE (roomE k)) = ⟨a, b, p, q⟩) (w : World) : Calls Tryz.prog 10 #[.int .i64 k, .bool n, .agg #[.int .i64 lo, .int .i64 hi, .bool nl, .bool nh]] w (RetS w a b p q) := by
  have b1 := Lib.hid ((Blk.new w 23 #[.int .i64 lo, .int .i64 hi, .bool nl, .bool nh]).alloc (.cells zS 23))
  have b2 := Lib.hid (new2 w (.cells #[.int .i64 lo, .int .i64 hi, .bool nl, .bool nh] 23) 23 zS)
  have H2 := Lib.hid (box2 w (.cells #[.int .i64 lo, .int .i64 hi, .bool nl, .bool nh] 23) (.cells zS 23))
  rcases e1 : rd ⟨lo, hi, nl, nh⟩ with ⟨l, h⟩
  rw [e1] at hs hw
  have HA := Lib.hid (fun w => read_any lo hi nl nh l h e1 w)
  have HG := Lib.hid (fun w => single_any l h w)
  have hs2 : (l == h) = false := by simpa using hs
  rw [hs2] at HG
  rcases e2 : roomE k with ⟨ra, rb⟩
  rw [e2] at hr hw
  have HI := Lib.hid (fun w => ints_any k ra rb (by omega) e2 w)
  have HW := Lib.hid (fun w => within_any l h ra rb w)
  rw [hw] at HW
  rcases e3 : lowE ⟨ra, rb⟩ with ⟨l2, h2⟩
  rw [e3] at hr
  have HL := Lib.hid (fun w => low_any ra rb l2 h2 e3 w)
  clear e3
  have HS := Lib.hid (fun w => span_any l2 h2 a b p q hr w)
  clear hr e1 hs hs2 hw e2
  rcases hk with ⟨rfl, rfl⟩ | ⟨rfl, rfl⟩
  all_goals
    go_enter Tryz.func10, Tryz.ntmps10
    go_wp2_with fail
    refine (HA.out _).mono ?_
    rintro e w1 ⟨rfl, hB⟩
    have X1_ := Lib.hid (b2.out.up hB)
    have B2_ := Lib.hid (nx H2.out hB)
    clear hB
    obtain ⟨⟨c3_, c4_, c5_, c6_⟩, ⟨c7_, c8_, c9_, c10_⟩, c11_⟩ := cells4 X1_.out
    go_wp2_with fail
    have X12_ := Lib.hid (X1_.out.alloc (.cells #[.int .i64 l, .int .i64 h] 30))
    have X13_ := Lib.hid (Blk.new w1 30 #[.int .i64 l, .int .i64 h])
    have B14_ := Lib.hid (nx B2_.out (below_box' _ (.cells #[.int .i64 l, .int .i64 h] 30)))
    have hg1 : w.heap.size ≤ w1.heap.size := by omega
    have hg2 : w.heap.size + 1 ≠ w1.heap.size := by omega
    refine (HG.out _).mono ?_
    rintro e w2 ⟨rfl, hB⟩
    have X15_ := Lib.hid (X12_.out.up hB)
    have X16_ := Lib.hid (X13_.out.up hB)
    have B17_ := Lib.hid (nx B14_.out hB)
    clear hB
    clear c3_ c4_ c5_ c6_ c7_ c8_ c9_ c10_ c11_
    obtain ⟨⟨c18_, c19_, c20_, c21_⟩, ⟨c22_, c23_, c24_, c25_⟩, c26_⟩ := cells4 X15_.out
    obtain ⟨c27_, c28_, c29_, c30_, c31_⟩ := cells2 X16_.out
    go_wp2_with fail
    refine (HI.out _).mono ?_
    rintro e w3 ⟨rfl, hB⟩
    have X32_ := Lib.hid (X15_.out.up hB)
    have X33_ := Lib.hid (X16_.out.up hB)
    have B34_ := Lib.hid (nx B17_.out hB)
    clear hB
    clear c18_ c19_ c20_ c21_ c22_ c23_ c24_ c25_ c26_ c27_ c28_ c29_ c30_ c31_
    obtain ⟨⟨c35_, c36_, c37_, c38_⟩, ⟨c39_, c40_, c41_, c42_⟩, c43_⟩ := cells4 X32_.out
    obtain ⟨c44_, c45_, c46_, c47_, c48_⟩ := cells2 X33_.out
    go_wp2_with fail
    have hg3 : w3.heap.size ≠ w1.heap.size := by omega
    have X49_ := Lib.hid (X32_.out.alloc (.cells #[.int .i64 ra, .int .i64 rb] 30))
    have X50_ := Lib.hid (X33_.out.alloc (.cells #[.int .i64 ra, .int .i64 rb] 30))
    have X51_ := Lib.hid (Blk.new w3 30 #[.int .i64 ra, .int .i64 rb])
    have B52_ := Lib.hid (nx B34_.out (below_box' _ (.cells #[.int .i64 ra, .int .i64 rb] 30)))
    refine (HW.out _).mono ?_
    rintro e w4 ⟨rfl, hB⟩
    have X53_ := Lib.hid (X49_.out.up hB)
    have X54_ := Lib.hid (X50_.out.up hB)
    have X55_ := Lib.hid (X51_.out.up hB)
    have B56_ := Lib.hid (nx B52_.out hB)
    clear hB
    clear c35_ c36_ c37_ c38_ c39_ c40_ c41_ c42_ c43_ c44_ c45_ c46_ c47_ c48_
    obtain ⟨⟨c57_, c58_, c59_, c60_⟩, ⟨c61_, c62_, c63_, c64_⟩, c65_⟩ := cells4 X53_.out
    obtain ⟨c66_, c67_, c68_, c69_, c70_⟩ := cells2 X54_.out
    obtain ⟨c71_, c72_, c73_, c74_, c75_⟩ := cells2 X55_.out
    go_wp2_with fail
    have X76_ := Lib.hid (set2 X54_.out (.int .i64 ra) (.int .i64 rb))
    have X77_ := Lib.hid (far2 X53_.out (by omega) (.int .i64 ra) (.int .i64 rb))
    have X78_ := Lib.hid (far2 X55_.out (by omega) (.int .i64 ra) (.int .i64 rb))
    have B79_ := Lib.hid (Below.set2 B56_.out (hg1) (.int .i64 ra) (.int .i64 rb))
    refine (HL.out _).mono ?_
    rintro e w5 ⟨rfl, hB⟩
    have X80_ := Lib.hid (X77_.out.up hB)
    have X81_ := Lib.hid (X76_.out.up hB)
    have B82_ := Lib.hid (nx B79_.out hB)
    clear hB
    clear c57_ c58_ c59_ c60_ c61_ c62_ c63_ c64_ c65_ c66_ c67_ c68_ c69_ c70_ c71_ c72_ c73_ c74_ c75_
    obtain ⟨⟨c83_, c84_, c85_, c86_⟩, ⟨c87_, c88_, c89_, c90_⟩, c91_⟩ := cells4 X80_.out
    obtain ⟨c92_, c93_, c94_, c95_, c96_⟩ := cells2 X81_.out
    go_wp2_with fail
    have X97_ := Lib.hid (set2 X81_.out (.int .i64 l2) (.int .i64 h2))
    have X98_ := Lib.hid (far2 X80_.out (by omega) (.int .i64 l2) (.int .i64 h2))
    have B99_ := Lib.hid (Below.set2 B82_.out (hg1) (.int .i64 l2) (.int .i64 h2))
    refine (HS.out _).mono ?_
    rintro e w6 ⟨rfl, hB⟩
    have X100_ := Lib.hid (X98_.out.up hB)
    have X101_ := Lib.hid (X97_.out.up hB)
    have B102_ := Lib.hid (nx B99_.out hB)
    clear hB
    clear c83_ c84_ c85_ c86_ c87_ c88_ c89_ c90_ c91_ c92_ c93_ c94_ c95_ c96_
    obtain ⟨⟨c103_, c104_, c105_, c106_⟩, ⟨c107_, c108_, c109_, c110_⟩, c111_⟩ := cells4 X100_.out
    obtain ⟨c112_, c113_, c114_, c115_, c116_⟩ := cells2 X101_.out
    go_wp2_with fail
    exact bodyPost_ret (v := .agg #[.int .i64 _, .int .i64 _, .bool _, .bool _]) (results_cell_row Tryz.results10 _ _ (w.heap.size + 1) 23 #[.int .i64 _, .int .i64 _, .bool _, .bool _] (0, 0) _ rfl (set4 X100_.out _ _ _ _) Tryz.underlying23 rfl (by kernel_rfl)) rfl ⟨rfl, Below.set4 B102_.out (by omega) _ _ _ _⟩
set_option maxHeartbeats 4000000 in
theorem ex_out_w (k : Int) (n : Bool) (hk : (k = 8 ∧ n = false) ∨ (k = 16 ∧ n = false) ∨ (k = 32 ∧ n = false)) (lo hi : Int) (nl nh : Bool) (a b : Int) (p q : Bool) (hs : ¬ (rd ⟨lo, hi, nl, nh⟩).lo = (rd ⟨lo, hi, nl, nh⟩).hi) (hw : withinB (rd ⟨lo, hi, nl, nh⟩) (roomE k) = false) (hr : sp (roomE k) = ⟨a, b, p, q⟩) (w : World) : Calls Tryz.prog 10 #[.int .i64 k, .bool n, .agg #[.int .i64 lo, .int .i64 hi, .bool nl, .bool nh]] w (RetS w a b p q) := by
  have b1 := Lib.hid ((Blk.new w 23 #[.int .i64 lo, .int .i64 hi, .bool nl, .bool nh]).alloc (.cells zS 23))
  have b2 := Lib.hid (new2 w (.cells #[.int .i64 lo, .int .i64 hi, .bool nl, .bool nh] 23) 23 zS)
  have H2 := Lib.hid (box2 w (.cells #[.int .i64 lo, .int .i64 hi, .bool nl, .bool nh] 23) (.cells zS 23))
  rcases e1 : rd ⟨lo, hi, nl, nh⟩ with ⟨l, h⟩
  rw [e1] at hs hw
  have HA := Lib.hid (fun w => read_any lo hi nl nh l h e1 w)
  have HG := Lib.hid (fun w => single_any l h w)
  have hs2 : (l == h) = false := by simpa using hs
  rw [hs2] at HG
  rcases e2 : roomE k with ⟨ra, rb⟩
  rw [e2] at hr hw
  have HI := Lib.hid (fun w => ints_any k ra rb (by omega) e2 w)
  have HW := Lib.hid (fun w => within_any l h ra rb w)
  rw [hw] at HW
  have HS := Lib.hid (fun w => span_any ra rb a b p q hr w)
  clear hr e1 hs hs2 hw e2
  rcases hk with ⟨rfl, rfl⟩ | ⟨rfl, rfl⟩ | ⟨rfl, rfl⟩
  all_goals
    go_enter Tryz.func10, Tryz.ntmps10
    go_wp2_with fail
    refine (HA.out _).mono ?_
    rintro e w1 ⟨rfl, hB⟩
    have X1_ := Lib.hid (b2.out.up hB)
    have B2_ := Lib.hid (nx H2.out hB)
    clear hB
    obtain ⟨⟨c3_, c4_, c5_, c6_⟩, ⟨c7_, c8_, c9_, c10_⟩, c11_⟩ := cells4 X1_.out
    go_wp2_with fail
    have X12_ := Lib.hid (X1_.out.alloc (.cells #[.int .i64 l, .int .i64 h] 30))
    have X13_ := Lib.hid (Blk.new w1 30 #[.int .i64 l, .int .i64 h])
    have B14_ := Lib.hid (nx B2_.out (below_box' _ (.cells #[.int .i64 l, .int .i64 h] 30)))
    have hg1 : w.heap.size ≤ w1.heap.size := by omega
    have hg2 : w.heap.size + 1 ≠ w1.heap.size := by omega
    refine (HG.out _).mono ?_
    rintro e w2 ⟨rfl, hB⟩
    have X15_ := Lib.hid (X12_.out.up hB)
    have X16_ := Lib.hid (X13_.out.up hB)
    have B17_ := Lib.hid (nx B14_.out hB)
    clear hB
    clear c3_ c4_ c5_ c6_ c7_ c8_ c9_ c10_ c11_
    obtain ⟨⟨c18_, c19_, c20_, c21_⟩, ⟨c22_, c23_, c24_, c25_⟩, c26_⟩ := cells4 X15_.out
    obtain ⟨c27_, c28_, c29_, c30_, c31_⟩ := cells2 X16_.out
    go_wp2_with fail
    refine (HI.out _).mono ?_
    rintro e w3 ⟨rfl, hB⟩
    have X32_ := Lib.hid (X15_.out.up hB)
    have X33_ := Lib.hid (X16_.out.up hB)
    have B34_ := Lib.hid (nx B17_.out hB)
    clear hB
    clear c18_ c19_ c20_ c21_ c22_ c23_ c24_ c25_ c26_ c27_ c28_ c29_ c30_ c31_
    obtain ⟨⟨c35_, c36_, c37_, c38_⟩, ⟨c39_, c40_, c41_, c42_⟩, c43_⟩ := cells4 X32_.out
    obtain ⟨c44_, c45_, c46_, c47_, c48_⟩ := cells2 X33_.out
    go_wp2_with fail
    have hg3 : w3.heap.size ≠ w1.heap.size := by omega
    have X49_ := Lib.hid (X32_.out.alloc (.cells #[.int .i64 ra, .int .i64 rb] 30))
    have X50_ := Lib.hid (X33_.out.alloc (.cells #[.int .i64 ra, .int .i64 rb] 30))
    have X51_ := Lib.hid (Blk.new w3 30 #[.int .i64 ra, .int .i64 rb])
    have B52_ := Lib.hid (nx B34_.out (below_box' _ (.cells #[.int .i64 ra, .int .i64 rb] 30)))
    refine (HW.out _).mono ?_
    rintro e w4 ⟨rfl, hB⟩
    have X53_ := Lib.hid (X49_.out.up hB)
    have X54_ := Lib.hid (X50_.out.up hB)
    have X55_ := Lib.hid (X51_.out.up hB)
    have B56_ := Lib.hid (nx B52_.out hB)
    clear hB
    clear c35_ c36_ c37_ c38_ c39_ c40_ c41_ c42_ c43_ c44_ c45_ c46_ c47_ c48_
    obtain ⟨⟨c57_, c58_, c59_, c60_⟩, ⟨c61_, c62_, c63_, c64_⟩, c65_⟩ := cells4 X53_.out
    obtain ⟨c66_, c67_, c68_, c69_, c70_⟩ := cells2 X54_.out
    obtain ⟨c71_, c72_, c73_, c74_, c75_⟩ := cells2 X55_.out
    go_wp2_with fail
    have X76_ := Lib.hid (set2 X54_.out (.int .i64 ra) (.int .i64 rb))
    have X77_ := Lib.hid (far2 X53_.out (by omega) (.int .i64 ra) (.int .i64 rb))
    have X78_ := Lib.hid (far2 X55_.out (by omega) (.int .i64 ra) (.int .i64 rb))
    have B79_ := Lib.hid (Below.set2 B56_.out (hg1) (.int .i64 ra) (.int .i64 rb))
    refine (HS.out _).mono ?_
    rintro e w5 ⟨rfl, hB⟩
    have X80_ := Lib.hid (X77_.out.up hB)
    have X81_ := Lib.hid (X76_.out.up hB)
    have B82_ := Lib.hid (nx B79_.out hB)
    clear hB
    clear c57_ c58_ c59_ c60_ c61_ c62_ c63_ c64_ c65_ c66_ c67_ c68_ c69_ c70_ c71_ c72_ c73_ c74_ c75_
    obtain ⟨⟨c83_, c84_, c85_, c86_⟩, ⟨c87_, c88_, c89_, c90_⟩, c91_⟩ := cells4 X80_.out
    obtain ⟨c92_, c93_, c94_, c95_, c96_⟩ := cells2 X81_.out
    go_wp2_with fail
    exact bodyPost_ret (v := .agg #[.int .i64 _, .int .i64 _, .bool _, .bool _]) (results_cell_row Tryz.results10 _ _ (w.heap.size + 1) 23 #[.int .i64 _, .int .i64 _, .bool _, .bool _] (0, 0) _ rfl (set4 X80_.out _ _ _ _) Tryz.underlying23 rfl (by kernel_rfl)) rfl ⟨rfl, Below.set4 B82_.out (by omega) _ _ _ _⟩
theorem Extend_any (k : Int) (n : Bool) (lo hi : Int) (nl nh : Bool) (a b : Int) (p q : Bool) (hr : extS k n ⟨lo, hi, nl, nh⟩ = ⟨a, b, p, q⟩) (w : World) : Calls Tryz.prog 10 #[.int .i64 k, .bool n, .agg #[.int .i64 lo, .int .i64 hi, .bool nl, .bool nh]] w (RetS w a b p q) := by
  unfold extS at hr
  by_cases hk : k = 8 ∨ k = 16 ∨ (k = 32 ∧ n = false)
  · rw [if_pos hk] at hr
    have hk5 : (k = 8 ∧ n = false) ∨ (k = 16 ∧ n = false) ∨ (k = 32 ∧ n = false) ∨ (k = 8 ∧ n = true) ∨ (k = 16 ∧ n = true) := by
      cases n <;> simp_all
    unfold extE at hr
    by_cases hs : (rd ⟨lo, hi, nl, nh⟩).lo = (rd ⟨lo, hi, nl, nh⟩).hi
    · rw [if_pos hs] at hr
      exact ex_single k n hk5 lo hi nl nh a b p q hs hr w
    · rw [if_neg hs] at hr
      cases hw : withinB (rd ⟨lo, hi, nl, nh⟩) (roomE k)
      · rw [hw] at hr
        cases n
        · exact ex_out_w k false (by simpa using hk) lo hi nl nh a b p q hs hw (by simpa using hr) w
        · exact ex_out_n k true (by simpa using hk) lo hi nl nh a b p q hs hw (by simpa using hr) w
      · rw [hw] at hr
        cases n
        · exact ex_in_w k false (by simpa using hk) lo hi nl nh a b p q hs hw (by simpa using hr) w
        · exact ex_in_n k true (by simpa using hk) lo hi nl nh a b p q hs hw (by simpa using hr) w
  · rw [if_neg hk] at hr
    obtain ⟨rfl, rfl, rfl, rfl⟩ := sp_eq (show (⟨0, 0, true, true⟩ : Sp) = _ from hr)
    exact ex_no k n lo hi nl nh (fun h => hk (.inl h)) (fun h => hk (.inr (.inl h))) (fun h => by cases n with | true => rfl | false => exact absurd (.inr (.inr ⟨h, rfl⟩)) hk) w
end Spc
end Go.Proofs.YtjhgjplhhhgfcaaGreat
