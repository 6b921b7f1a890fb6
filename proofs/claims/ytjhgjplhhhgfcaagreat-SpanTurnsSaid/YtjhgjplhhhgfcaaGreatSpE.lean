/- Contracts of package span: Bytes, Swap, Extend. -/
import Derived.Test.YtjhgjplhhhgfcaaGreatSpD
import Derived.Test.YtjhgjplhhhgfcaaGreatSwapLaw
import Derived.Test.YtjhgjplhhhgfcaaGreatExtLaw
namespace Go.Proofs.YtjhgjplhhhgfcaaGreat
open Go.ChangeShapes Go.WideShapes Go.ChangeAt Go.RowKit
open Spn
namespace Spc
set_option linter.unusedVariables false
set_option maxRecDepth 100000
theorem far2 {w : World} {g g' : Nat} {t : TypeId} {cs : Array Value} (h : Blk w g t cs) (hn : g ≠ g') (a b : Value) : Blk ((w.setCell ⟨g', 0, none⟩ a).setCell ⟨g', 1, none⟩ b) g t cs := (h.far (p := ⟨g', 0, none⟩) hn a).far (p := ⟨g', 1, none⟩) hn b
def botX (k l h : Int) : E := if k = 64 then ⟨l, h⟩ else if k = 32 then lowE ⟨l, h⟩ else r16 l h
theorem bot_any (k : Int) (hk : k = 16 ∨ k = 32 ∨ k = 64) (l h p q : Int) (hr : botX k l h = ⟨p, q⟩) (w : World) : Calls Tryz.prog 26 #[.agg #[.int .i64 l, .int .i64 h], .int .i64 k] w (RetE w p q) := by
  unfold botX at hr
  rcases hk with rfl | rfl | rfl
  · rw [if_neg (by decide), if_neg (by decide)] at hr
    exact bottom_16 l h p q hr w
  · rw [if_neg (by decide), if_pos rfl] at hr
    exact bottom_32 l h p q hr w
  · rw [if_pos rfl] at hr
    obtain ⟨rfl, rfl⟩ := e_eq hr
    exact bottom_64 l h w
/-- what Bytes tells -/
def bytesX (k : Int) (g : Bool) : Sp :=
  if k = 1 then (if g then ⟨-128, 127, false, false⟩ else ⟨0, 255, false, false⟩) else
  if k = 2 then (if g then ⟨-32768, 32767, false, false⟩ else ⟨0, 65535, false, false⟩) else
  if k = 4 then (if g then ⟨-2147483648, 2147483647, false, false⟩ else ⟨0, 4294967295, false, false⟩) else fullS
/-- what Swap tells of two ends -/
def swapE (k : Int) (t : Bool) (r : E) : E :=
  if r.lo = r.hi then ⟨swapI k t r.lo, swapI k t r.lo⟩ else if t then botX k LEAST TOP else botX k r.lo r.hi
def swapS (k : Int) (t : Bool) (s : Sp) : Sp := if k = 16 ∨ k = 32 ∨ k = 64 then sp (swapE k t (rd s)) else fullS
def roomE (k : Int) : E := if k = 8 then ⟨-128, 127⟩ else if k = 16 then ⟨-32768, 32767⟩ else ⟨-2147483648, 2147483647⟩
def extE (k : Int) (n : Bool) (r : E) : E :=
  if r.lo = r.hi then ⟨extI k n r.lo, extI k n r.lo⟩ else
  let q := if withinB r (roomE k) then r else roomE k
  if n then lowE q else q
def extS (k : Int) (n : Bool) (s : Sp) : Sp := if k = 8 ∨ k = 16 ∨ (k = 32 ∧ n = false) then sp (extE k n (rd s)) else fullS
set_option maxHeartbeats 1000000 in
theorem sw_no (k : Int) (t : Bool) (lo hi : Int) (nl nh : Bool) (h16 : k ≠ 16) (h32 : k ≠ 32) (h64 : k ≠ 64) (w : World) : Calls Tryz.prog 8 #[.int .i64 k, .bool t, .agg #[.int .i64 lo, .int .i64 hi, .bool nl, .bool nh]] w (RetS w 0 0 true true) := by
  have b1 := Lib.hid ((Blk.new w 23 #[.int .i64 lo, .int .i64 hi, .bool nl, .bool nh]).alloc (.cells zS 23))
  have b2 := Lib.hid (new2 w (.cells #[.int .i64 lo, .int .i64 hi, .bool nl, .bool nh] 23) 23 zS)
  have H2 := Lib.hid (box2 w (.cells #[.int .i64 lo, .int .i64 hi, .bool nl, .bool nh] 23) (.cells zS 23))
  rcases e1 : rd ⟨lo, hi, nl, nh⟩ with ⟨l, h⟩
  have HA := Lib.hid (fun w => read_any lo hi nl nh l h e1 w)
  have HF := Lib.hid (fun w => full_any w)
  have t16 : (k != 16) = true := by simpa using h16
  have t32 : (k != 32) = true := by simpa using h32
  have t64 : (k != 64) = true := by simpa using h64
  clear h16 h32 h64 e1
  go_enter Tryz.func8, Tryz.ntmps8
  go_wp2_with fail
  refine (HA.out _).mono ?_
  rintro e w1 ⟨rfl, hB⟩
  have X1_ := Lib.hid (b2.out.up hB)
  have B2_ := Lib.hid (nx H2.out hB)
  clear hB
  obtain ⟨⟨c3_, c4_, c5_, c6_⟩, ⟨c7_, c8_, c9_, c10_⟩, c11_⟩ := cells4 X1_.out
  go_wp2_with fail
  have X12_ := Lib.hid (X1_.out.alloc (.cells #[.int .i64 l, .int .i64 h] 30))
  have X13_ := Lib.hid (Blk.new w1 30 #[.int .i64 l, .int .i64 h])
  have B14_ := Lib.hid (nx B2_.out (below_box' _ (.cells #[.int .i64 l, .int .i64 h] 30)))
  refine (HF.out _).mono ?_
  rintro e w2 ⟨rfl, hB⟩
  have X15_ := Lib.hid (X12_.out.up hB)
  have X16_ := Lib.hid (X13_.out.up hB)
  have B17_ := Lib.hid (nx B14_.out hB)
  clear hB
  clear c3_ c4_ c5_ c6_ c7_ c8_ c9_ c10_ c11_
  obtain ⟨⟨c18_, c19_, c20_, c21_⟩, ⟨c22_, c23_, c24_, c25_⟩, c26_⟩ := cells4 X15_.out
  obtain ⟨c27_, c28_, c29_, c30_, c31_⟩ := cells2 X16_.out
  go_wp2_with fail
  exact bodyPost_ret (v := .agg #[.int .i64 _, .int .i64 _, .bool _, .bool _]) (results_cell_row Tryz.results8 _ _ (w.heap.size + 1) 23 #[.int .i64 _, .int .i64 _, .bool _, .bool _] (0, 0) _ rfl (set4 X15_.out _ _ _ _) Tryz.underlying23 rfl (by kernel_rfl)) rfl ⟨rfl, Below.set4 B17_.out (by omega) _ _ _ _⟩
set_option maxHeartbeats 4000000 in
theorem sw_single (k : Int) (t : Bool) (hk : k = 16 ∨ k = 32 ∨ k = 64) (lo hi : Int) (nl nh : Bool) (a b : Int) (p q : Bool) (hs : (rd ⟨lo, hi, nl, nh⟩).lo = (rd ⟨lo, hi, nl, nh⟩).hi) (hr : sp ⟨swapI k t (rd ⟨lo, hi, nl, nh⟩).lo, swapI k t (rd ⟨lo, hi, nl, nh⟩).lo⟩ = ⟨a, b, p, q⟩) (w : World) : Calls Tryz.prog 8 #[.int .i64 k, .bool t, .agg #[.int .i64 lo, .int .i64 hi, .bool nl, .bool nh]] w (RetS w a b p q) := by
  have b1 := Lib.hid ((Blk.new w 23 #[.int .i64 lo, .int .i64 hi, .bool nl, .bool nh]).alloc (.cells zS 23))
  have b2 := Lib.hid (new2 w (.cells #[.int .i64 lo, .int .i64 hi, .bool nl, .bool nh] 23) 23 zS)
  have H2 := Lib.hid (box2 w (.cells #[.int .i64 lo, .int .i64 hi, .bool nl, .bool nh] 23) (.cells zS 23))
  rcases e1 : rd ⟨lo, hi, nl, nh⟩ with ⟨l, h⟩
  rw [e1] at hr hs
  have HA := Lib.hid (fun w => read_any lo hi nl nh l h e1 w)
  have HG := Lib.hid (fun w => single_any l h w)
  obtain rfl : l = h := hs
  rw [show (l == l) = true from beq_self_eq_true l] at HG
  have HV := Lib.hid (fun w => swap_any k t l w)
  have HS := Lib.hid (fun w => span_any (swapI k t l) (swapI k t l) a b p q hr w)
  generalize swapI k t l = v at *
  clear hr e1
  rcases hk with rfl | rfl | rfl
  all_goals
    go_enter Tryz.func8, Tryz.ntmps8
    go_wp2_with fail
    refine (HA.out _).mono ?_
    rintro e w1 ⟨rfl, hB⟩
    have X1_ := Lib.hid (b2.out.up hB)
    have B2_ := Lib.hid (nx H2.out hB)
    clear hB
    obtain ⟨⟨c3_, c4_, c5_, c6_⟩, ⟨c7_, c8_, c9_, c10_⟩, c11_⟩ := cells4 X1_.out
    go_wp2_with fail
    have X12_ := Lib.hid (X1_.out.alloc (.cells #[.int .i64 l, .int .i64 l] 30))
    have X13_ := Lib.hid (Blk.new w1 30 #[.int .i64 l, .int .i64 l])
    have B14_ := Lib.hid (nx B2_.out (below_box' _ (.cells #[.int .i64 l, .int .i64 l] 30)))
    have hg1 : w.heap.size ≤ w1.heap.size := by omega
    have hg2 : w.heap.size + 1 ≠ w1.heap.size := by omega
    refine (HG.out _).mono ?_
    rintro e w2 ⟨rfl, hB⟩
    have X15_ := Lib.hid (X12_.out.up hB)
    have X16_ := Lib.hid (X13_.out.up hB)
    have B17_ := Lib.hid (nx B14_.out hB)
    clear hB
    clear c3_ c4_ c5_ c6_ c7_ c8_ c9_ c10_ c11_
    obtain ⟨⟨c18_, c19_, c20_, c21_⟩, ⟨c22_, c23_, c24_, c25_⟩, c26_⟩ := cells4 X15_.out
    obtain ⟨c27_, c28_, c29_, c30_, c31_⟩ := cells2 X16_.out
    go_wp2_with fail
    refine (HV.out _).mono ?_
    rintro e w' ⟨rfl, rfl⟩
    go_wp2_with fail
    have X32_ := Lib.hid (set2 X16_.out (.int .i64 v) (.int .i64 v))
    have X33_ := Lib.hid (far2 X15_.out (by omega) (.int .i64 v) (.int .i64 v))
    have B34_ := Lib.hid (Below.set2 B17_.out (hg1) (.int .i64 v) (.int .i64 v))
    refine (HS.out _).mono ?_
    rintro e w3 ⟨rfl, hB⟩
    have X35_ := Lib.hid (X33_.out.up hB)
    have X36_ := Lib.hid (X32_.out.up hB)
    have B37_ := Lib.hid (nx B34_.out hB)
    clear hB
    clear c18_ c19_ c20_ c21_ c22_ c23_ c24_ c25_ c26_ c27_ c28_ c29_ c30_ c31_
    obtain ⟨⟨c38_, c39_, c40_, c41_⟩, ⟨c42_, c43_, c44_, c45_⟩, c46_⟩ := cells4 X35_.out
    obtain ⟨c47_, c48_, c49_, c50_, c51_⟩ := cells2 X36_.out
    go_wp2_with fail
    exact bodyPost_ret (v := .agg #[.int .i64 _, .int .i64 _, .bool _, .bool _]) (results_cell_row Tryz.results8 _ _ (w.heap.size + 1) 23 #[.int .i64 _, .int .i64 _, .bool _, .bool _] (0, 0) _ rfl (set4 X35_.out _ _ _ _) Tryz.underlying23 rfl (by kernel_rfl)) rfl ⟨rfl, Below.set4 B37_.out (by omega) _ _ _ _⟩
set_option maxHeartbeats 4000000 in
theorem sw_turned (k : Int) (t : Bool) (hk : k = 16 ∨ k = 32 ∨ k = 64) (lo hi : Int) (nl nh : Bool) (a b : Int) (p q : Bool) (hs : ¬ (rd ⟨lo, hi, nl, nh⟩).lo = (rd ⟨lo, hi, nl, nh⟩).hi) (hr : sp (botX k LEAST TOP) = ⟨a, b, p, q⟩) (w : World) : Calls Tryz.prog 8 #[.int .i64 k, .bool true, .agg #[.int .i64 lo, .int .i64 hi, .bool nl, .bool nh]] w (RetS w a b p q) := by
  have b1 := Lib.hid ((Blk.new w 23 #[.int .i64 lo, .int .i64 hi, .bool nl, .bool nh]).alloc (.cells zS 23))
  have b2 := Lib.hid (new2 w (.cells #[.int .i64 lo, .int .i64 hi, .bool nl, .bool nh] 23) 23 zS)
  have H2 := Lib.hid (box2 w (.cells #[.int .i64 lo, .int .i64 hi, .bool nl, .bool nh] 23) (.cells zS 23))
  rcases e1 : rd ⟨lo, hi, nl, nh⟩ with ⟨l, h⟩
  rw [e1] at hs
  have HA := Lib.hid (fun w => read_any lo hi nl nh l h e1 w)
  have HG := Lib.hid (fun w => single_any l h w)
  have hs2 : (l == h) = false := by simpa using hs
  rw [hs2] at HG
  rcases e2 : botX k LEAST TOP with ⟨l2, h2⟩
  rw [e2] at hr
  have HL := Lib.hid (fun w => all_any w)
  have HV := Lib.hid (fun w => bot_any k hk (-9223372036854775808) 9223372036854775807 l2 h2 e2 w)
  have HS := Lib.hid (fun w => span_any l2 h2 a b p q hr w)
  clear hs2 e2
  clear hr e1 hs
  rcases hk with rfl | rfl | rfl
  all_goals
    go_enter Tryz.func8, Tryz.ntmps8
    go_wp2_with fail
    refine (HA.out _).mono ?_
    rintro e w1 ⟨rfl, hB⟩
    have X1_ := Lib.hid (b2.out.up hB)
    have B2_ := Lib.hid (nx H2.out hB)
    clear hB
    obtain ⟨⟨c3_, c4_, c5_, c6_⟩, ⟨c7_, c8_, c9_, c10_⟩, c11_⟩ := cells4 X1_.out
    go_wp2_with fail
    have X12_ := Lib.hid (X1_.out.alloc (.cells #[.int .i64 l, .int .i64 h] 30))
    have X13_ := Lib.hid (Blk.new w1 30 #[.int .i64 l, .int .i64 h])
    have B14_ := Lib.hid (nx B2_.out (below_box' _ (.cells #[.int .i64 l, .int .i64 h] 30)))
    have hg1 : w.heap.size ≤ w1.heap.size := by omega
    have hg2 : w.heap.size + 1 ≠ w1.heap.size := by omega
    refine (HG.out _).mono ?_
    rintro e w2 ⟨rfl, hB⟩
    have X15_ := Lib.hid (X12_.out.up hB)
    have X16_ := Lib.hid (X13_.out.up hB)
    have B17_ := Lib.hid (nx B14_.out hB)
    clear hB
    clear c3_ c4_ c5_ c6_ c7_ c8_ c9_ c10_ c11_
    obtain ⟨⟨c18_, c19_, c20_, c21_⟩, ⟨c22_, c23_, c24_, c25_⟩, c26_⟩ := cells4 X15_.out
    obtain ⟨c27_, c28_, c29_, c30_, c31_⟩ := cells2 X16_.out
    go_wp2_with fail
    refine (HL.out _).mono ?_
    rintro e w3 ⟨rfl, hB⟩
    have X32_ := Lib.hid (X15_.out.up hB)
    have X33_ := Lib.hid (X16_.out.up hB)
    have B34_ := Lib.hid (nx B17_.out hB)
    clear hB
    clear c18_ c19_ c20_ c21_ c22_ c23_ c24_ c25_ c26_ c27_ c28_ c29_ c30_ c31_
    obtain ⟨⟨c35_, c36_, c37_, c38_⟩, ⟨c39_, c40_, c41_, c42_⟩, c43_⟩ := cells4 X32_.out
    obtain ⟨c44_, c45_, c46_, c47_, c48_⟩ := cells2 X33_.out
    go_wp2_with fail
    refine (HV.out _).mono ?_
    rintro e w4 ⟨rfl, hB⟩
    have X49_ := Lib.hid (X32_.out.up hB)
    have X50_ := Lib.hid (X33_.out.up hB)
    have B51_ := Lib.hid (nx B34_.out hB)
    clear hB
    clear c35_ c36_ c37_ c38_ c39_ c40_ c41_ c42_ c43_ c44_ c45_ c46_ c47_ c48_
    obtain ⟨⟨c52_, c53_, c54_, c55_⟩, ⟨c56_, c57_, c58_, c59_⟩, c60_⟩ := cells4 X49_.out
    obtain ⟨c61_, c62_, c63_, c64_, c65_⟩ := cells2 X50_.out
    go_wp2_with fail
    have X66_ := Lib.hid (set2 X50_.out (.int .i64 l2) (.int .i64 h2))
    have X67_ := Lib.hid (far2 X49_.out (by omega) (.int .i64 l2) (.int .i64 h2))
    have B68_ := Lib.hid (Below.set2 B51_.out (hg1) (.int .i64 l2) (.int .i64 h2))
    refine (HS.out _).mono ?_
    rintro e w5 ⟨rfl, hB⟩
    have X69_ := Lib.hid (X67_.out.up hB)
    have X70_ := Lib.hid (X66_.out.up hB)
    have B71_ := Lib.hid (nx B68_.out hB)
    clear hB
    clear c52_ c53_ c54_ c55_ c56_ c57_ c58_ c59_ c60_ c61_ c62_ c63_ c64_ c65_
    obtain ⟨⟨c72_, c73_, c74_, c75_⟩, ⟨c76_, c77_, c78_, c79_⟩, c80_⟩ := cells4 X69_.out
    obtain ⟨c81_, c82_, c83_, c84_, c85_⟩ := cells2 X70_.out
    go_wp2_with fail
    exact bodyPost_ret (v := .agg #[.int .i64 _, .int .i64 _, .bool _, .bool _]) (results_cell_row Tryz.results8 _ _ (w.heap.size + 1) 23 #[.int .i64 _, .int .i64 _, .bool _, .bool _] (0, 0) _ rfl (set4 X69_.out _ _ _ _) Tryz.underlying23 rfl (by kernel_rfl)) rfl ⟨rfl, Below.set4 B71_.out (by omega) _ _ _ _⟩
set_option maxHeartbeats 4000000 in
theorem sw_plain (k : Int) (t : Bool) (hk : k = 16 ∨ k = 32 ∨ k = 64) (lo hi : Int) (nl nh : Bool) (a b : Int) (p q : Bool) (hs : ¬ (rd ⟨lo, hi, nl, nh⟩).lo = (rd ⟨lo, hi, nl, nh⟩).hi) (hr : sp (botX k (rd ⟨lo, hi, nl, nh⟩).lo (rd ⟨lo, hi, nl, nh⟩).hi) = ⟨a, b, p, q⟩) (w : World) : Calls Tryz.prog 8 #[.int .i64 k, .bool false, .agg #[.int .i64 lo, .int .i64 hi, .bool nl, .bool nh]] w (RetS w a b p q) := by
  have b1 := Lib.hid ((Blk.new w 23 #[.int .i64 lo, .int .i64 hi, .bool nl, .bool nh]).alloc (.cells zS 23))
  have b2 := Lib.hid (new2 w (.cells #[.int .i64 lo, .int .i64 hi, .bool nl, .bool nh] 23) 23 zS)
  have H2 := Lib.hid (box2 w (.cells #[.int .i64 lo, .int .i64 hi, .bool nl, .bool nh] 23) (.cells zS 23))
  rcases e1 : rd ⟨lo, hi, nl, nh⟩ with ⟨l, h⟩
  rw [e1] at hr hs
  have HA := Lib.hid (fun w => read_any lo hi nl nh l h e1 w)
  have HG := Lib.hid (fun w => single_any l h w)
  have hs2 : (l == h) = false := by simpa using hs
  rw [hs2] at HG
  rcases e2 : botX k l h with ⟨l2, h2⟩
  replace hr : sp (botX k l h) = ⟨a, b, p, q⟩ := hr
  rw [e2] at hr
  have HV := Lib.hid (fun w => bot_any k hk l h l2 h2 e2 w)
  have HS := Lib.hid (fun w => span_any l2 h2 a b p q hr w)
  clear hs2 e2
  clear hr e1 hs
  rcases hk with rfl | rfl | rfl
  all_goals
    go_enter Tryz.func8, Tryz.ntmps8
    go_wp2_with fail
    refine (HA.out _).mono ?_
    rintro e w1 ⟨rfl, hB⟩
    have X1_ := Lib.hid (b2.out.up hB)
    have B2_ := Lib.hid (nx H2.out hB)
    clear hB
    obtain ⟨⟨c3_, c4_, c5_, c6_⟩, ⟨c7_, c8_, c9_, c10_⟩, c11_⟩ := cells4 X1_.out
    go_wp2_with fail
    have X12_ := Lib.hid (X1_.out.alloc (.cells #[.int .i64 l, .int .i64 h] 30))
    have X13_ := Lib.hid (Blk.new w1 30 #[.int .i64 l, .int .i64 h])
    have B14_ := Lib.hid (nx B2_.out (below_box' _ (.cells #[.int .i64 l, .int .i64 h] 30)))
    have hg1 : w.heap.size ≤ w1.heap.size := by omega
    have hg2 : w.heap.size + 1 ≠ w1.heap.size := by omega
    refine (HG.out _).mono ?_
    rintro e w2 ⟨rfl, hB⟩
    have X15_ := Lib.hid (X12_.out.up hB)
    have X16_ := Lib.hid (X13_.out.up hB)
    have B17_ := Lib.hid (nx B14_.out hB)
    clear hB
    clear c3_ c4_ c5_ c6_ c7_ c8_ c9_ c10_ c11_
    obtain ⟨⟨c18_, c19_, c20_, c21_⟩, ⟨c22_, c23_, c24_, c25_⟩, c26_⟩ := cells4 X15_.out
    obtain ⟨c27_, c28_, c29_, c30_, c31_⟩ := cells2 X16_.out
    go_wp2_with fail
    refine (HV.out _).mono ?_
    rintro e w3 ⟨rfl, hB⟩
    have X32_ := Lib.hid (X15_.out.up hB)
    have X33_ := Lib.hid (X16_.out.up hB)
    have B34_ := Lib.hid (nx B17_.out hB)
    clear hB
    clear c18_ c19_ c20_ c21_ c22_ c23_ c24_ c25_ c26_ c27_ c28_ c29_ c30_ c31_
    obtain ⟨⟨c35_, c36_, c37_, c38_⟩, ⟨c39_, c40_, c41_, c42_⟩, c43_⟩ := cells4 X32_.out
    obtain ⟨c44_, c45_, c46_, c47_, c48_⟩ := cells2 X33_.out
    go_wp2_with fail
    have X49_ := Lib.hid (set2 X33_.out (.int .i64 l2) (.int .i64 h2))
    have X50_ := Lib.hid (far2 X32_.out (by omega) (.int .i64 l2) (.int .i64 h2))
    have B51_ := Lib.hid (Below.set2 B34_.out (hg1) (.int .i64 l2) (.int .i64 h2))
    refine (HS.out _).mono ?_
    rintro e w4 ⟨rfl, hB⟩
    have X52_ := Lib.hid (X50_.out.up hB)
    have X53_ := Lib.hid (X49_.out.up hB)
    have B54_ := Lib.hid (nx B51_.out hB)
    clear hB
    clear c35_ c36_ c37_ c38_ c39_ c40_ c41_ c42_ c43_ c44_ c45_ c46_ c47_ c48_
    obtain ⟨⟨c55_, c56_, c57_, c58_⟩, ⟨c59_, c60_, c61_, c62_⟩, c63_⟩ := cells4 X52_.out
    obtain ⟨c64_, c65_, c66_, c67_, c68_⟩ := cells2 X53_.out
    go_wp2_with fail
    exact bodyPost_ret (v := .agg #[.int .i64 _, .int .i64 _, .bool _, .bool _]) (results_cell_row Tryz.results8 _ _ (w.heap.size + 1) 23 #[.int .i64 _, .int .i64 _, .bool _, .bool _] (0, 0) _ rfl (set4 X52_.out _ _ _ _) Tryz.underlying23 rfl (by kernel_rfl)) rfl ⟨rfl, Below.set4 B54_.out (by omega) _ _ _ _⟩
theorem Swap_any (k : Int) (t : Bool) (lo hi : Int) (nl nh : Bool) (a b : Int) (p q : Bool) (hr : swapS k t ⟨lo, hi, nl, nh⟩ = ⟨a, b, p, q⟩) (w : World) : Calls Tryz.prog 8 #[.int .i64 k, .bool t, .agg #[.int .i64 lo, .int .i64 hi, .bool nl, .bool nh]] w (RetS w a b p q) := by
  unfold swapS at hr
  by_cases hk : k = 16 ∨ k = 32 ∨ k = 64
  · rw [if_pos hk] at hr
    unfold swapE at hr
    by_cases hs : (rd ⟨lo, hi, nl, nh⟩).lo = (rd ⟨lo, hi, nl, nh⟩).hi
    · rw [if_pos hs] at hr
      exact sw_single k t hk lo hi nl nh a b p q hs hr w
    · rw [if_neg hs] at hr
      cases t
      · exact sw_plain k false hk lo hi nl nh a b p q hs hr w
      · exact sw_turned k true hk lo hi nl nh a b p q hs hr w
  · rw [if_neg hk] at hr
    obtain ⟨rfl, rfl, rfl, rfl⟩ := sp_eq (show (⟨0, 0, true, true⟩ : Sp) = _ from hr)
    exact sw_no k t lo hi nl nh (fun h => hk (.inl h)) (fun h => hk (.inr (.inl h))) (fun h => hk (.inr (.inr h))) w
end Spc
end Go.Proofs.YtjhgjplhhhgfcaaGreat
