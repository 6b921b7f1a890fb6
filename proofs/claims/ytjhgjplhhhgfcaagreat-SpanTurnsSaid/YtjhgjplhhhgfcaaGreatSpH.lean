/- Contracts of package span: sole; the exact arithmetics. -/
import Derived.Test.YtjhgjplhhhgfcaaGreatSpG
import Derived.Lib.Mul64
import Derived.Laws.Bits64b
namespace Go.Proofs.YtjhgjplhhhgfcaaGreat
open Go.ChangeShapes Go.WideShapes Go.ChangeAt Go.RowKit
open Spn
namespace Spc
set_option linter.unusedVariables false
set_option maxRecDepth 100000
/-- what a call that may fail hands back: a number, and whether it is one -/
def RetX (w : World) (o : Option Int) (e : Ending) (w' : World) : Prop := ∃ v, e = .returned (.tuple #[.int .i64 v, .bool o.isSome]) ∧ (∀ u, o = some u → v = u) ∧ Below w.heap.size w w'
theorem retX_some {w w' : World} {v : Int} (h : Below w.heap.size w w') : RetX w (some v) (.returned (.tuple #[.int .i64 v, .bool true])) w' := ⟨v, rfl, fun _ e => by injection e, h⟩
theorem retX_none {w w' : World} {v : Int} (h : Below w.heap.size w w') : RetX w none (.returned (.tuple #[.int .i64 v, .bool false])) w' := ⟨v, rfl, (by intro u e; cases e), h⟩
def soleX (op : Int) (n : Bool) (a b : E) : Option Int :=
  let p := if op = 15 then b else a
  let q := if op = 14 then a else b
  if p.lo = p.hi ∧ q.lo = q.hi then (if aluE op n q.lo = 0 then some (aluR op n p.lo q.lo) else none) else none
set_option maxHeartbeats 4000000 in
theorem sole_neg (op : Int) (n : Bool) (al ah bl bh : Int)  (w : World) : Calls Tryz.prog 13 #[.int .i64 14, .bool n, .agg #[.int .i64 al, .int .i64 ah], .agg #[.int .i64 bl, .int .i64 bh]] w (RetX w (if al = ah ∧ al = ah then (if aluE 14 n al = 0 then some (aluR 14 n al al) else none) else none)) := by
  have b1 := Lib.hid ((Blk.new w 30 #[.int .i64 al, .int .i64 ah]).alloc (.cells #[.int .i64 al, .int .i64 ah] 30))
  have b2 := Lib.hid (new2 w (.cells #[.int .i64 al, .int .i64 ah] 30) 30 #[.int .i64 al, .int .i64 ah])
  have H2 := Lib.hid (box2 w (.cells #[.int .i64 al, .int .i64 ah] 30) (.cells #[.int .i64 al, .int .i64 ah] 30))
  have HP := Lib.hid (fun w => single_any al ah w)
  have HQ := Lib.hid (fun w => single_any al ah w)
  have HA := Lib.hid (fun w => alu_any 14 n al al w)
  cases hp : (al == ah)
  · rw [hp] at HP
    rw [if_neg (by rintro ⟨h, _⟩; rw [h, beq_self_eq_true] at hp; cases hp)]
    clear hp
    go_enter Tryz.func13, Tryz.ntmps13
    go_wp2_with fail
    refine (HP.out _).mono ?_
    rintro e w1 ⟨rfl, hB⟩
    have X1_ := Lib.hid (b1.out.up hB)
    have X2_ := Lib.hid (b2.out.up hB)
    have B3_ := Lib.hid (nx H2.out hB)
    clear hB
    obtain ⟨c4_, c5_, c6_, c7_, c8_⟩ := cells2 X1_.out
    obtain ⟨c9_, c10_, c11_, c12_, c13_⟩ := cells2 X2_.out
    go_wp2_with fail
    go_ret2
    exact retX_none B3_.out
  · cases hq : (al == ah)
    · rw [hp] at HP
      rw [hq] at HQ
      rw [if_neg (by rintro ⟨_, h⟩; rw [h, beq_self_eq_true] at hq; cases hq)]
      clear hp hq
      go_enter Tryz.func13, Tryz.ntmps13
      go_wp2_with fail
      refine (HP.out _).mono ?_
      rintro e w1 ⟨rfl, hB⟩
      have X1_ := Lib.hid (b1.out.up hB)
      have X2_ := Lib.hid (b2.out.up hB)
      have B3_ := Lib.hid (nx H2.out hB)
      clear hB
      obtain ⟨c4_, c5_, c6_, c7_, c8_⟩ := cells2 X1_.out
      obtain ⟨c9_, c10_, c11_, c12_, c13_⟩ := cells2 X2_.out
      go_wp2_with fail
      refine (HQ.out _).mono ?_
      rintro e w2 ⟨rfl, hB⟩
      have X14_ := Lib.hid (X1_.out.up hB)
      have X15_ := Lib.hid (X2_.out.up hB)
      have B16_ := Lib.hid (nx B3_.out hB)
      clear hB
      clear c4_ c5_ c6_ c7_ c8_ c9_ c10_ c11_ c12_ c13_
      obtain ⟨c17_, c18_, c19_, c20_, c21_⟩ := cells2 X14_.out
      obtain ⟨c22_, c23_, c24_, c25_, c26_⟩ := cells2 X15_.out
      go_wp2_with fail
      go_ret2
      exact retX_none B16_.out
    · rw [hp] at HP
      rw [hq] at HQ
      rw [if_pos ⟨eq_of_beq hp, eq_of_beq hq⟩]
      clear hp hq
      generalize aluR 14 n al al = v at *
      generalize aluE 14 n al = er at *
      by_cases h0 : er = 0
      · rw [if_pos h0]
        subst h0
        go_enter Tryz.func13, Tryz.ntmps13
        go_wp2_with fail
        refine (HP.out _).mono ?_
        rintro e w1 ⟨rfl, hB⟩
        have X1_ := Lib.hid (b1.out.up hB)
        have X2_ := Lib.hid (b2.out.up hB)
        have B3_ := Lib.hid (nx H2.out hB)
        clear hB
        obtain ⟨c4_, c5_, c6_, c7_, c8_⟩ := cells2 X1_.out
        obtain ⟨c9_, c10_, c11_, c12_, c13_⟩ := cells2 X2_.out
        go_wp2_with fail
        refine (HQ.out _).mono ?_
        rintro e w2 ⟨rfl, hB⟩
        have X14_ := Lib.hid (X1_.out.up hB)
        have X15_ := Lib.hid (X2_.out.up hB)
        have B16_ := Lib.hid (nx B3_.out hB)
        clear hB
        clear c4_ c5_ c6_ c7_ c8_ c9_ c10_ c11_ c12_ c13_
        obtain ⟨c17_, c18_, c19_, c20_, c21_⟩ := cells2 X14_.out
        obtain ⟨c22_, c23_, c24_, c25_, c26_⟩ := cells2 X15_.out
        go_wp2_with fail
        refine (HA.out _).mono ?_
        rintro e w3 ⟨rfl, hB⟩
        have X27_ := Lib.hid (X14_.out.up hB)
        have X28_ := Lib.hid (X15_.out.up hB)
        have B29_ := Lib.hid (nx B16_.out hB)
        clear hB
        clear c17_ c18_ c19_ c20_ c21_ c22_ c23_ c24_ c25_ c26_
        obtain ⟨c30_, c31_, c32_, c33_, c34_⟩ := cells2 X27_.out
        obtain ⟨c35_, c36_, c37_, c38_, c39_⟩ := cells2 X28_.out
        go_wp2_with fail
        go_ret2
        exact retX_some B29_.out
      · rw [if_neg h0]
        have h1 : (er == 0) = false := by simpa using h0
        clear h0
        go_enter Tryz.func13, Tryz.ntmps13
        go_wp2_with fail
        refine (HP.out _).mono ?_
        rintro e w1 ⟨rfl, hB⟩
        have X1_ := Lib.hid (b1.out.up hB)
        have X2_ := Lib.hid (b2.out.up hB)
        have B3_ := Lib.hid (nx H2.out hB)
        clear hB
        obtain ⟨c4_, c5_, c6_, c7_, c8_⟩ := cells2 X1_.out
        obtain ⟨c9_, c10_, c11_, c12_, c13_⟩ := cells2 X2_.out
        go_wp2_with fail
        refine (HQ.out _).mono ?_
        rintro e w2 ⟨rfl, hB⟩
        have X14_ := Lib.hid (X1_.out.up hB)
        have X15_ := Lib.hid (X2_.out.up hB)
        have B16_ := Lib.hid (nx B3_.out hB)
        clear hB
        clear c4_ c5_ c6_ c7_ c8_ c9_ c10_ c11_ c12_ c13_
        obtain ⟨c17_, c18_, c19_, c20_, c21_⟩ := cells2 X14_.out
        obtain ⟨c22_, c23_, c24_, c25_, c26_⟩ := cells2 X15_.out
        go_wp2_with fail
        refine (HA.out _).mono ?_
        rintro e w3 ⟨rfl, hB⟩
        have X27_ := Lib.hid (X14_.out.up hB)
        have X28_ := Lib.hid (X15_.out.up hB)
        have B29_ := Lib.hid (nx B16_.out hB)
        clear hB
        clear c17_ c18_ c19_ c20_ c21_ c22_ c23_ c24_ c25_ c26_
        obtain ⟨c30_, c31_, c32_, c33_, c34_⟩ := cells2 X27_.out
        obtain ⟨c35_, c36_, c37_, c38_, c39_⟩ := cells2 X28_.out
        go_wp2_with fail
        go_ret2
        exact retX_none B29_.out
set_option maxHeartbeats 4000000 in
theorem sole_mov (op : Int) (n : Bool) (al ah bl bh : Int)  (w : World) : Calls Tryz.prog 13 #[.int .i64 15, .bool n, .agg #[.int .i64 al, .int .i64 ah], .agg #[.int .i64 bl, .int .i64 bh]] w (RetX w (if bl = bh ∧ bl = bh then (if aluE 15 n bl = 0 then some (aluR 15 n bl bl) else none) else none)) := by
  have b1 := Lib.hid ((Blk.new w 30 #[.int .i64 bl, .int .i64 bh]).alloc (.cells #[.int .i64 bl, .int .i64 bh] 30))
  have b2 := Lib.hid (new2 w (.cells #[.int .i64 bl, .int .i64 bh] 30) 30 #[.int .i64 bl, .int .i64 bh])
  have H2 := Lib.hid (box2 w (.cells #[.int .i64 bl, .int .i64 bh] 30) (.cells #[.int .i64 bl, .int .i64 bh] 30))
  have HP := Lib.hid (fun w => single_any bl bh w)
  have HQ := Lib.hid (fun w => single_any bl bh w)
  have HA := Lib.hid (fun w => alu_any 15 n bl bl w)
  cases hp : (bl == bh)
  · rw [hp] at HP
    rw [if_neg (by rintro ⟨h, _⟩; rw [h, beq_self_eq_true] at hp; cases hp)]
    clear hp
    go_enter Tryz.func13, Tryz.ntmps13
    go_wp2_with fail
    refine (HP.out _).mono ?_
    rintro e w1 ⟨rfl, hB⟩
    have X1_ := Lib.hid (b1.out.up hB)
    have X2_ := Lib.hid (b2.out.up hB)
    have B3_ := Lib.hid (nx H2.out hB)
    clear hB
    obtain ⟨c4_, c5_, c6_, c7_, c8_⟩ := cells2 X1_.out
    obtain ⟨c9_, c10_, c11_, c12_, c13_⟩ := cells2 X2_.out
    go_wp2_with fail
    go_ret2
    exact retX_none B3_.out
  · cases hq : (bl == bh)
    · rw [hp] at HP
      rw [hq] at HQ
      rw [if_neg (by rintro ⟨_, h⟩; rw [h, beq_self_eq_true] at hq; cases hq)]
      clear hp hq
      go_enter Tryz.func13, Tryz.ntmps13
      go_wp2_with fail
      refine (HP.out _).mono ?_
      rintro e w1 ⟨rfl, hB⟩
      have X1_ := Lib.hid (b1.out.up hB)
      have X2_ := Lib.hid (b2.out.up hB)
      have B3_ := Lib.hid (nx H2.out hB)
      clear hB
      obtain ⟨c4_, c5_, c6_, c7_, c8_⟩ := cells2 X1_.out
      obtain ⟨c9_, c10_, c11_, c12_, c13_⟩ := cells2 X2_.out
      go_wp2_with fail
      refine (HQ.out _).mono ?_
      rintro e w2 ⟨rfl, hB⟩
      have X14_ := Lib.hid (X1_.out.up hB)
      have X15_ := Lib.hid (X2_.out.up hB)
      have B16_ := Lib.hid (nx B3_.out hB)
      clear hB
      clear c4_ c5_ c6_ c7_ c8_ c9_ c10_ c11_ c12_ c13_
      obtain ⟨c17_, c18_, c19_, c20_, c21_⟩ := cells2 X14_.out
      obtain ⟨c22_, c23_, c24_, c25_, c26_⟩ := cells2 X15_.out
      go_wp2_with fail
      go_ret2
      exact retX_none B16_.out
    · rw [hp] at HP
      rw [hq] at HQ
      rw [if_pos ⟨eq_of_beq hp, eq_of_beq hq⟩]
      clear hp hq
      generalize aluR 15 n bl bl = v at *
      generalize aluE 15 n bl = er at *
      by_cases h0 : er = 0
      · rw [if_pos h0]
        subst h0
        go_enter Tryz.func13, Tryz.ntmps13
        go_wp2_with fail
        refine (HP.out _).mono ?_
        rintro e w1 ⟨rfl, hB⟩
        have X1_ := Lib.hid (b1.out.up hB)
        have X2_ := Lib.hid (b2.out.up hB)
        have B3_ := Lib.hid (nx H2.out hB)
        clear hB
        obtain ⟨c4_, c5_, c6_, c7_, c8_⟩ := cells2 X1_.out
        obtain ⟨c9_, c10_, c11_, c12_, c13_⟩ := cells2 X2_.out
        go_wp2_with fail
        refine (HQ.out _).mono ?_
        rintro e w2 ⟨rfl, hB⟩
        have X14_ := Lib.hid (X1_.out.up hB)
        have X15_ := Lib.hid (X2_.out.up hB)
        have B16_ := Lib.hid (nx B3_.out hB)
        clear hB
        clear c4_ c5_ c6_ c7_ c8_ c9_ c10_ c11_ c12_ c13_
        obtain ⟨c17_, c18_, c19_, c20_, c21_⟩ := cells2 X14_.out
        obtain ⟨c22_, c23_, c24_, c25_, c26_⟩ := cells2 X15_.out
        go_wp2_with fail
        refine (HA.out _).mono ?_
        rintro e w3 ⟨rfl, hB⟩
        have X27_ := Lib.hid (X14_.out.up hB)
        have X28_ := Lib.hid (X15_.out.up hB)
        have B29_ := Lib.hid (nx B16_.out hB)
        clear hB
        clear c17_ c18_ c19_ c20_ c21_ c22_ c23_ c24_ c25_ c26_
        obtain ⟨c30_, c31_, c32_, c33_, c34_⟩ := cells2 X27_.out
        obtain ⟨c35_, c36_, c37_, c38_, c39_⟩ := cells2 X28_.out
        go_wp2_with fail
        go_ret2
        exact retX_some B29_.out
      · rw [if_neg h0]
        have h1 : (er == 0) = false := by simpa using h0
        clear h0
        go_enter Tryz.func13, Tryz.ntmps13
        go_wp2_with fail
        refine (HP.out _).mono ?_
        rintro e w1 ⟨rfl, hB⟩
        have X1_ := Lib.hid (b1.out.up hB)
        have X2_ := Lib.hid (b2.out.up hB)
        have B3_ := Lib.hid (nx H2.out hB)
        clear hB
        obtain ⟨c4_, c5_, c6_, c7_, c8_⟩ := cells2 X1_.out
        obtain ⟨c9_, c10_, c11_, c12_, c13_⟩ := cells2 X2_.out
        go_wp2_with fail
        refine (HQ.out _).mono ?_
        rintro e w2 ⟨rfl, hB⟩
        have X14_ := Lib.hid (X1_.out.up hB)
        have X15_ := Lib.hid (X2_.out.up hB)
        have B16_ := Lib.hid (nx B3_.out hB)
        clear hB
        clear c4_ c5_ c6_ c7_ c8_ c9_ c10_ c11_ c12_ c13_
        obtain ⟨c17_, c18_, c19_, c20_, c21_⟩ := cells2 X14_.out
        obtain ⟨c22_, c23_, c24_, c25_, c26_⟩ := cells2 X15_.out
        go_wp2_with fail
        refine (HA.out _).mono ?_
        rintro e w3 ⟨rfl, hB⟩
        have X27_ := Lib.hid (X14_.out.up hB)
        have X28_ := Lib.hid (X15_.out.up hB)
        have B29_ := Lib.hid (nx B16_.out hB)
        clear hB
        clear c17_ c18_ c19_ c20_ c21_ c22_ c23_ c24_ c25_ c26_
        obtain ⟨c30_, c31_, c32_, c33_, c34_⟩ := cells2 X27_.out
        obtain ⟨c35_, c36_, c37_, c38_, c39_⟩ := cells2 X28_.out
        go_wp2_with fail
        go_ret2
        exact retX_none B29_.out
set_option maxHeartbeats 4000000 in
theorem sole_else (op : Int) (n : Bool) (al ah bl bh : Int) (h14 : op ≠ 14) (h15 : op ≠ 15) (w : World) : Calls Tryz.prog 13 #[.int .i64 op, .bool n, .agg #[.int .i64 al, .int .i64 ah], .agg #[.int .i64 bl, .int .i64 bh]] w (RetX w (if al = ah ∧ bl = bh then (if aluE op n bl = 0 then some (aluR op n al bl) else none) else none)) := by
  have t14 : (op == 14) = false := by simpa using h14
  have t15 : (op == 15) = false := by simpa using h15
  clear h14 h15
  have b1 := Lib.hid ((Blk.new w 30 #[.int .i64 al, .int .i64 ah]).alloc (.cells #[.int .i64 bl, .int .i64 bh] 30))
  have b2 := Lib.hid (new2 w (.cells #[.int .i64 al, .int .i64 ah] 30) 30 #[.int .i64 bl, .int .i64 bh])
  have H2 := Lib.hid (box2 w (.cells #[.int .i64 al, .int .i64 ah] 30) (.cells #[.int .i64 bl, .int .i64 bh] 30))
  have HP := Lib.hid (fun w => single_any al ah w)
  have HQ := Lib.hid (fun w => single_any bl bh w)
  have HA := Lib.hid (fun w => alu_any op n al bl w)
  cases hp : (al == ah)
  · rw [hp] at HP
    rw [if_neg (by rintro ⟨h, _⟩; rw [h, beq_self_eq_true] at hp; cases hp)]
    clear hp
    go_enter Tryz.func13, Tryz.ntmps13
    go_wp2_with fail
    refine (HP.out _).mono ?_
    rintro e w1 ⟨rfl, hB⟩
    have X1_ := Lib.hid (b1.out.up hB)
    have X2_ := Lib.hid (b2.out.up hB)
    have B3_ := Lib.hid (nx H2.out hB)
    clear hB
    obtain ⟨c4_, c5_, c6_, c7_, c8_⟩ := cells2 X1_.out
    obtain ⟨c9_, c10_, c11_, c12_, c13_⟩ := cells2 X2_.out
    go_wp2_with fail
    go_ret2
    exact retX_none B3_.out
  · cases hq : (bl == bh)
    · rw [hp] at HP
      rw [hq] at HQ
      rw [if_neg (by rintro ⟨_, h⟩; rw [h, beq_self_eq_true] at hq; cases hq)]
      clear hp hq
      go_enter Tryz.func13, Tryz.ntmps13
      go_wp2_with fail
      refine (HP.out _).mono ?_
      rintro e w1 ⟨rfl, hB⟩
      have X1_ := Lib.hid (b1.out.up hB)
      have X2_ := Lib.hid (b2.out.up hB)
      have B3_ := Lib.hid (nx H2.out hB)
      clear hB
      obtain ⟨c4_, c5_, c6_, c7_, c8_⟩ := cells2 X1_.out
      obtain ⟨c9_, c10_, c11_, c12_, c13_⟩ := cells2 X2_.out
      go_wp2_with fail
      refine (HQ.out _).mono ?_
      rintro e w2 ⟨rfl, hB⟩
      have X14_ := Lib.hid (X1_.out.up hB)
      have X15_ := Lib.hid (X2_.out.up hB)
      have B16_ := Lib.hid (nx B3_.out hB)
      clear hB
      clear c4_ c5_ c6_ c7_ c8_ c9_ c10_ c11_ c12_ c13_
      obtain ⟨c17_, c18_, c19_, c20_, c21_⟩ := cells2 X14_.out
      obtain ⟨c22_, c23_, c24_, c25_, c26_⟩ := cells2 X15_.out
      go_wp2_with fail
      go_ret2
      exact retX_none B16_.out
    · rw [hp] at HP
      rw [hq] at HQ
      rw [if_pos ⟨eq_of_beq hp, eq_of_beq hq⟩]
      clear hp hq
      generalize aluR op n al bl = v at *
      generalize aluE op n bl = er at *
      by_cases h0 : er = 0
      · rw [if_pos h0]
        subst h0
        go_enter Tryz.func13, Tryz.ntmps13
        go_wp2_with fail
        refine (HP.out _).mono ?_
        rintro e w1 ⟨rfl, hB⟩
        have X1_ := Lib.hid (b1.out.up hB)
        have X2_ := Lib.hid (b2.out.up hB)
        have B3_ := Lib.hid (nx H2.out hB)
        clear hB
        obtain ⟨c4_, c5_, c6_, c7_, c8_⟩ := cells2 X1_.out
        obtain ⟨c9_, c10_, c11_, c12_, c13_⟩ := cells2 X2_.out
        go_wp2_with fail
        refine (HQ.out _).mono ?_
        rintro e w2 ⟨rfl, hB⟩
        have X14_ := Lib.hid (X1_.out.up hB)
        have X15_ := Lib.hid (X2_.out.up hB)
        have B16_ := Lib.hid (nx B3_.out hB)
        clear hB
        clear c4_ c5_ c6_ c7_ c8_ c9_ c10_ c11_ c12_ c13_
        obtain ⟨c17_, c18_, c19_, c20_, c21_⟩ := cells2 X14_.out
        obtain ⟨c22_, c23_, c24_, c25_, c26_⟩ := cells2 X15_.out
        go_wp2_with fail
        refine (HA.out _).mono ?_
        rintro e w3 ⟨rfl, hB⟩
        have X27_ := Lib.hid (X14_.out.up hB)
        have X28_ := Lib.hid (X15_.out.up hB)
        have B29_ := Lib.hid (nx B16_.out hB)
        clear hB
        clear c17_ c18_ c19_ c20_ c21_ c22_ c23_ c24_ c25_ c26_
        obtain ⟨c30_, c31_, c32_, c33_, c34_⟩ := cells2 X27_.out
        obtain ⟨c35_, c36_, c37_, c38_, c39_⟩ := cells2 X28_.out
        go_wp2_with fail
        go_ret2
        exact retX_some B29_.out
      · rw [if_neg h0]
        have h1 : (er == 0) = false := by simpa using h0
        clear h0
        go_enter Tryz.func13, Tryz.ntmps13
        go_wp2_with fail
        refine (HP.out _).mono ?_
        rintro e w1 ⟨rfl, hB⟩
        have X1_ := Lib.hid (b1.out.up hB)
        have X2_ := Lib.hid (b2.out.up hB)
        have B3_ := Lib.hid (nx H2.out hB)
        clear hB
        obtain ⟨c4_, c5_, c6_, c7_, c8_⟩ := cells2 X1_.out
        obtain ⟨c9_, c10_, c11_, c12_, c13_⟩ := cells2 X2_.out
        go_wp2_with fail
        refine (HQ.out _).mono ?_
        rintro e w2 ⟨rfl, hB⟩
        have X14_ := Lib.hid (X1_.out.up hB)
        have X15_ := Lib.hid (X2_.out.up hB)
        have B16_ := Lib.hid (nx B3_.out hB)
        clear hB
        clear c4_ c5_ c6_ c7_ c8_ c9_ c10_ c11_ c12_ c13_
        obtain ⟨c17_, c18_, c19_, c20_, c21_⟩ := cells2 X14_.out
        obtain ⟨c22_, c23_, c24_, c25_, c26_⟩ := cells2 X15_.out
        go_wp2_with fail
        refine (HA.out _).mono ?_
        rintro e w3 ⟨rfl, hB⟩
        have X27_ := Lib.hid (X14_.out.up hB)
        have X28_ := Lib.hid (X15_.out.up hB)
        have B29_ := Lib.hid (nx B16_.out hB)
        clear hB
        clear c17_ c18_ c19_ c20_ c21_ c22_ c23_ c24_ c25_ c26_
        obtain ⟨c30_, c31_, c32_, c33_, c34_⟩ := cells2 X27_.out
        obtain ⟨c35_, c36_, c37_, c38_, c39_⟩ := cells2 X28_.out
        go_wp2_with fail
        go_ret2
        exact retX_none B29_.out
theorem sole_any (op : Int) (n : Bool) (al ah bl bh : Int) (w : World) : Calls Tryz.prog 13 #[.int .i64 op, .bool n, .agg #[.int .i64 al, .int .i64 ah], .agg #[.int .i64 bl, .int .i64 bh]] w (RetX w (soleX op n ⟨al, ah⟩ ⟨bl, bh⟩)) := by
  unfold soleX
  dsimp only
  by_cases h14 : op = 14
  · subst h14
    rw [if_neg (show ¬ (14 : Int) = 15 by decide), if_pos (show (14 : Int) = 14 from rfl)]
    exact sole_neg 14 n al ah bl bh w
  by_cases h15 : op = 15
  · subst h15
    rw [if_pos (show (15 : Int) = 15 from rfl), if_neg (show ¬ (15 : Int) = 14 by decide)]
    exact sole_mov 15 n al ah bl bh w
  rw [if_neg h15, if_neg h14]
  exact sole_else op n al ah bl bh h14 h15 w
theorem retQ_some (w : World) (v : Int) : RetX w (some v) (.returned (.tuple #[.int .i64 v, .bool true])) w := retX_some (Below.refl _ _)
theorem retQ_none (w : World) (v : Int) : RetX w none (.returned (.tuple #[.int .i64 v, .bool false])) w := retX_none (Below.refl _ _)
theorem retQ_at {w w' : World} {o : Option Int} {v : Int} {b : Bool} (hB : Below w.heap.size w w') (hb : b = o.isSome) (hv : ∀ u, o = some u → v = u) : RetX w o (.returned (.tuple #[.int .i64 v, .bool b])) w' := ⟨v, by rw [hb], hv, hB⟩
theorem fits_no {v : Int} (h : v < LEAST ∨ TOP < v) : fits v = none := by unfold fits; rw [if_neg (by omega)]
set_option maxHeartbeats 1000000 in
theorem plus_any (a b : Int) (ha : I64 a) (hb : I64 b) (w : World) : Calls Tryz.prog 86 #[.int .i64 a, .int .i64 b] w (RetX w (plusX a b)) := by
  unfold I64 LEAST TOP at ha hb
  obtain ⟨a1, a2⟩ := ha
  obtain ⟨b1, b2⟩ := hb
  unfold plusX
  rcases (by omega : a + b < -9223372036854775808 ∨ 9223372036854775807 < a + b ∨ (-9223372036854775808 ≤ a + b ∧ a + b ≤ 9223372036854775807)) with h | h | ⟨h, h'⟩
  · rw [fits_no (.inl h)]
    rcases Int.lt_trichotomy b 0 with hb | hb | hb
    all_goals first | (exfalso; omega) | skip
    all_goals
      go_enter Tryz.func86, Tryz.ntmps86
      go_wp2_with fail
      first | (go_ret2; exact retQ_none w _) | (exfalso; omega)
  · rw [fits_no (.inr h)]
    rcases Int.lt_trichotomy b 0 with hb | hb | hb
    all_goals first | (exfalso; omega) | skip
    all_goals
      go_enter Tryz.func86, Tryz.ntmps86
      go_wp2_with fail
      first | (go_ret2; exact retQ_none w _) | (exfalso; omega)
  · rw [fits_in ⟨h, h'⟩]
    rcases Int.lt_trichotomy b 0 with hb | hb | hb
    all_goals try (obtain rfl : b = 0 := hb; rw [show a + 0 = a by omega])
    all_goals
      go_enter Tryz.func86, Tryz.ntmps86
      go_wp2_with fail
      first | (go_ret2; exact retQ_some w _) | (exfalso; omega)
set_option maxHeartbeats 1000000 in
theorem minus_any (a b : Int) (ha : I64 a) (hb : I64 b) (w : World) : Calls Tryz.prog 87 #[.int .i64 a, .int .i64 b] w (RetX w (minusX a b)) := by
  unfold I64 LEAST TOP at ha hb
  obtain ⟨a1, a2⟩ := ha
  obtain ⟨b1, b2⟩ := hb
  unfold minusX
  rcases (by omega : a - b < -9223372036854775808 ∨ 9223372036854775807 < a - b ∨ (-9223372036854775808 ≤ a - b ∧ a - b ≤ 9223372036854775807)) with h | h | ⟨h, h'⟩
  · rw [fits_no (.inl h)]
    rcases Int.lt_trichotomy b 0 with hb | hb | hb
    all_goals first | (exfalso; omega) | skip
    all_goals
      go_enter Tryz.func87, Tryz.ntmps87
      go_wp2_with fail
      first | (go_ret2; exact retQ_none w _) | (exfalso; omega)
  · rw [fits_no (.inr h)]
    rcases Int.lt_trichotomy b 0 with hb | hb | hb
    all_goals first | (exfalso; omega) | skip
    all_goals
      go_enter Tryz.func87, Tryz.ntmps87
      go_wp2_with fail
      first | (go_ret2; exact retQ_none w _) | (exfalso; omega)
  · rw [fits_in ⟨h, h'⟩]
    rcases Int.lt_trichotomy b 0 with hb | hb | hb
    all_goals try (obtain rfl : b = 0 := hb; rw [show a - 0 = a by omega])
    all_goals
      go_enter Tryz.func87, Tryz.ntmps87
      go_wp2_with fail
      first | (go_ret2; exact retQ_some w _) | (exfalso; omega)
end Spc
end Go.Proofs.YtjhgjplhhhgfcaaGreat
