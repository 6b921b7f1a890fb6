/- Contracts of package span: signless, counts, operands, sole. -/
import Derived.Test.YtjhgjplhhhgfcaaGreatSpD
import Derived.Test.YtjhgjplhhhgfcaaGreatAlu2
namespace Go.Proofs.YtjhgjplhhhgfcaaGreat
open Go.ChangeShapes Go.WideShapes Go.ChangeAt Go.RowKit
open Spn
namespace Spc
set_option linter.unusedVariables false
set_option maxRecDepth 100000
theorem signless_any (op : Int) (w : World) : Calls Tryz.prog 43 #[.int .i64 op] w fun e w' => e = .returned (.int .i64 (plainX op)) ∧ w = w' := by
  unfold plainX
  by_cases h6 : op = 6
  · subst h6
    go_enter Tryz.func43, Tryz.ntmps43
    go_wp2_with fail
    go_ret
    exact ⟨rfl, rfl⟩
  by_cases h7 : op = 7
  · subst h7
    go_enter Tryz.func43, Tryz.ntmps43
    go_wp2_with fail
    go_ret
    exact ⟨rfl, rfl⟩
  by_cases h13 : op = 13
  · subst h13
    go_enter Tryz.func43, Tryz.ntmps43
    go_wp2_with fail
    go_ret
    exact ⟨rfl, rfl⟩
  rw [if_neg h6, if_neg h7, if_neg h13]
  have t6 : (op == 6) = false := by simpa using h6
  have t7 : (op == 7) = false := by simpa using h7
  have t13 : (op == 13) = false := by simpa using h13
  clear h6 h7 h13
  go_enter Tryz.func43, Tryz.ntmps43
  go_wp2_with fail
  go_ret
  exact ⟨rfl, rfl⟩
theorem andK (x : Int) (k : Nat) (hk : k ≤ 32) (m M : Int) (hm : (2 : Int) ^ k - 1 = m) (hM : (2 : Int) ^ k = M) (hb : (BitVec.ofInt 64 m).toNat = 2 ^ k - 1) : bits BinOp.and IntKind.i64 x m = x % M := by
  show IntKind.i64.wrap (((BitVec.ofInt 64 x &&& BitVec.ofInt 64 m).toNat : Nat) : Int) = x % M
  rw [BitVec.toNat_and, hb, Nat.and_two_pow_sub_one_eq_mod, BitVec.toNat_ofInt]
  have e2 : (((x % ((2 ^ 64 : Nat) : Int)).toNat % 2 ^ k : Nat) : Int) = x % 2 ^ k := by
    rw [Int.natCast_emod, Int.toNat_of_nonneg (Int.emod_nonneg _ (by decide))]
    rw [show (((2 : Nat) ^ k : Nat) : Int) = 2 ^ k by simp]
    exact Int.emod_emod_of_dvd x ⟨2 ^ (64 - k), by rw [← Int.pow_add, show k + (64 - k) = 64 by omega]; rfl⟩
  rw [e2, hM]
  have h1 := pow2_pos k
  have h2 := pow2_le hk
  rw [hM] at h1 h2
  rw [show (2 : Int) ^ 32 = 4294967296 from rfl] at h2
  have h0 := Int.emod_nonneg x (show M ≠ 0 by omega)
  have h3 := Int.emod_lt_of_pos x h1
  exact IntWalk.i64_in _ (by omega)
theorem and63' (x : Int) : bits BinOp.and IntKind.i64 x 63 = x % 64 := andK x 6 (by decide) 63 64 (by decide) (by decide) (by decide)
theorem and31' (x : Int) : bits BinOp.and IntKind.i64 x 31 = x % 32 := andK x 5 (by decide) 31 32 (by decide) (by decide) (by decide)
theorem new4 (w : World) (o o2 o3 : Obj) (t : TypeId) (cs : Array Value) : Blk ((((w.alloc o).alloc o2).alloc o3).alloc (.cells cs t)) (w.heap.size + 3) t cs := by
  have := Blk.new (((w.alloc o).alloc o2).alloc o3) t cs
  rwa [size1, size1, size1] at this
theorem box4 (w : World) (o o2 o3 o4 : Obj) : Below w.heap.size w ((((w.alloc o).alloc o2).alloc o3).alloc o4) := nx (box3 w o o2 o3) (below_box' _ o4)
set_option maxHeartbeats 4000000 in
theorem counts_63 (bl bh ll lh p q : Int) (hr : countsX ⟨bl, bh⟩ ⟨ll, lh⟩ 64 = ⟨p, q⟩) (w : World) : Calls Tryz.prog 42 #[.agg #[.int .i64 bl, .int .i64 bh], .agg #[.int .i64 ll, .int .i64 lh], .int .i64 63] w (RetE w p q) := by
  have b1 := Lib.hid ((((Blk.new w 30 #[.int .i64 bl, .int .i64 bh]).alloc (.cells #[.int .i64 ll, .int .i64 lh] 30)).alloc (.cells zE 30)).alloc (.cells #[.int .i64 0, .int .i64 63] 30))
  have b2 := Lib.hid (((new2 w (.cells #[.int .i64 bl, .int .i64 bh] 30) 30 #[.int .i64 ll, .int .i64 lh]).alloc (.cells zE 30)).alloc (.cells #[.int .i64 0, .int .i64 63] 30))
  have b3 := Lib.hid ((new3 w (.cells #[.int .i64 bl, .int .i64 bh] 30) (.cells #[.int .i64 ll, .int .i64 lh] 30) 30 zE).alloc (.cells #[.int .i64 0, .int .i64 63] 30))
  have b4 := Lib.hid (new4 w (.cells #[.int .i64 bl, .int .i64 bh] 30) (.cells #[.int .i64 ll, .int .i64 lh] 30) (.cells zE 30) 30 #[.int .i64 0, .int .i64 63])
  have H4 := Lib.hid (box4 w (.cells #[.int .i64 bl, .int .i64 bh] 30) (.cells #[.int .i64 ll, .int .i64 lh] 30) (.cells zE 30) (.cells #[.int .i64 0, .int .i64 63] 30))
  unfold countsX at hr
  have HG := Lib.hid (fun w => single_any bl bh w)
  have HW := Lib.hid (fun w => within_any ll lh 0 63 w)
  dsimp only at hr
  by_cases hs : bl = bh
  · rw [if_pos hs] at hr
    obtain ⟨rfl, rfl⟩ := e_eq hr
    subst hs
    rw [show (bl == bl) = true from beq_self_eq_true bl] at HG
    have HM := Lib.hid (and63' bl)
    clear hr
    go_enter Tryz.func42, Tryz.ntmps42
    go_wp2_with fail
    refine (HG.out _).mono ?_
    rintro e w1 ⟨rfl, hB⟩
    have X1_ := Lib.hid (b1.out.up hB)
    have X2_ := Lib.hid (b2.out.up hB)
    have X3_ := Lib.hid (b3.out.up hB)
    have X4_ := Lib.hid (b4.out.up hB)
    have B5_ := Lib.hid (nx H4.out hB)
    clear hB
    obtain ⟨c6_, c7_, c8_, c9_, c10_⟩ := cells2 X1_.out
    obtain ⟨c11_, c12_, c13_, c14_, c15_⟩ := cells2 X2_.out
    obtain ⟨c16_, c17_, c18_, c19_, c20_⟩ := cells2 X3_.out
    obtain ⟨c21_, c22_, c23_, c24_, c25_⟩ := cells2 X4_.out
    go_wp2_with fail
    rw [HM.out]
    exact bodyPost_ret (v := .agg #[.int .i64 _, .int .i64 _]) (results_cell_row Tryz.results42 _ _ (w.heap.size + 2) 30 #[.int .i64 _, .int .i64 _] (0, 0) _ rfl (set2 X3_.out _ _) Tryz.underlying30 rfl (by kernel_rfl)) rfl ⟨rfl, Below.set2 B5_.out (by omega) _ _⟩
  · rw [if_neg hs] at hr
    have hs2 : (bl == bh) = false := by simpa using hs
    rw [hs2] at HG
    clear hs hs2
    cases hw : withinB ⟨ll, lh⟩ ⟨0, 63⟩
    · rw [show withinB ⟨ll, lh⟩ ⟨0, 64 - 1⟩ = false from hw] at hr
      rw [hw] at HW
      obtain ⟨rfl, rfl⟩ := e_eq (show (⟨0, 63⟩ : E) = _ from hr)
      clear hr hw
      go_enter Tryz.func42, Tryz.ntmps42
      go_wp2_with fail
      refine (HG.out _).mono ?_
      rintro e w1 ⟨rfl, hB⟩
      have X1_ := Lib.hid (b1.out.up hB)
      have X2_ := Lib.hid (b2.out.up hB)
      have X3_ := Lib.hid (b3.out.up hB)
      have X4_ := Lib.hid (b4.out.up hB)
      have B5_ := Lib.hid (nx H4.out hB)
      clear hB
      obtain ⟨c6_, c7_, c8_, c9_, c10_⟩ := cells2 X1_.out
      obtain ⟨c11_, c12_, c13_, c14_, c15_⟩ := cells2 X2_.out
      obtain ⟨c16_, c17_, c18_, c19_, c20_⟩ := cells2 X3_.out
      obtain ⟨c21_, c22_, c23_, c24_, c25_⟩ := cells2 X4_.out
      go_wp2_with fail
      refine (HW.out _).mono ?_
      rintro e w2 ⟨rfl, hB⟩
      have X26_ := Lib.hid (X1_.out.up hB)
      have X27_ := Lib.hid (X2_.out.up hB)
      have X28_ := Lib.hid (X3_.out.up hB)
      have X29_ := Lib.hid (X4_.out.up hB)
      have B30_ := Lib.hid (nx B5_.out hB)
      clear hB
      clear c6_ c7_ c8_ c9_ c10_ c11_ c12_ c13_ c14_ c15_ c16_ c17_ c18_ c19_ c20_ c21_ c22_ c23_ c24_ c25_
      obtain ⟨c31_, c32_, c33_, c34_, c35_⟩ := cells2 X26_.out
      obtain ⟨c36_, c37_, c38_, c39_, c40_⟩ := cells2 X27_.out
      obtain ⟨c41_, c42_, c43_, c44_, c45_⟩ := cells2 X28_.out
      obtain ⟨c46_, c47_, c48_, c49_, c50_⟩ := cells2 X29_.out
      go_wp2_with fail
      exact bodyPost_ret (v := .agg #[.int .i64 _, .int .i64 _]) (results_cell_row Tryz.results42 _ _ (w.heap.size + 2) 30 #[.int .i64 _, .int .i64 _] (0, 0) _ rfl (set2 X28_.out _ _) Tryz.underlying30 rfl (by kernel_rfl)) rfl ⟨rfl, Below.set2 B30_.out (by omega) _ _⟩
    · rw [show withinB ⟨ll, lh⟩ ⟨0, 64 - 1⟩ = true from hw] at hr
      rw [hw] at HW
      obtain ⟨rfl, rfl⟩ := e_eq hr
      clear hr hw
      go_enter Tryz.func42, Tryz.ntmps42
      go_wp2_with fail
      refine (HG.out _).mono ?_
      rintro e w1 ⟨rfl, hB⟩
      have X1_ := Lib.hid (b1.out.up hB)
      have X2_ := Lib.hid (b2.out.up hB)
      have X3_ := Lib.hid (b3.out.up hB)
      have X4_ := Lib.hid (b4.out.up hB)
      have B5_ := Lib.hid (nx H4.out hB)
      clear hB
      obtain ⟨c6_, c7_, c8_, c9_, c10_⟩ := cells2 X1_.out
      obtain ⟨c11_, c12_, c13_, c14_, c15_⟩ := cells2 X2_.out
      obtain ⟨c16_, c17_, c18_, c19_, c20_⟩ := cells2 X3_.out
      obtain ⟨c21_, c22_, c23_, c24_, c25_⟩ := cells2 X4_.out
      go_wp2_with fail
      refine (HW.out _).mono ?_
      rintro e w2 ⟨rfl, hB⟩
      have X26_ := Lib.hid (X1_.out.up hB)
      have X27_ := Lib.hid (X2_.out.up hB)
      have X28_ := Lib.hid (X3_.out.up hB)
      have X29_ := Lib.hid (X4_.out.up hB)
      have B30_ := Lib.hid (nx B5_.out hB)
      clear hB
      clear c6_ c7_ c8_ c9_ c10_ c11_ c12_ c13_ c14_ c15_ c16_ c17_ c18_ c19_ c20_ c21_ c22_ c23_ c24_ c25_
      obtain ⟨c31_, c32_, c33_, c34_, c35_⟩ := cells2 X26_.out
      obtain ⟨c36_, c37_, c38_, c39_, c40_⟩ := cells2 X27_.out
      obtain ⟨c41_, c42_, c43_, c44_, c45_⟩ := cells2 X28_.out
      obtain ⟨c46_, c47_, c48_, c49_, c50_⟩ := cells2 X29_.out
      go_wp2_with fail
      exact bodyPost_ret (v := .agg #[.int .i64 _, .int .i64 _]) (results_cell_row Tryz.results42 _ _ (w.heap.size + 2) 30 #[.int .i64 _, .int .i64 _] (0, 0) _ rfl (set2 X28_.out _ _) Tryz.underlying30 rfl (by kernel_rfl)) rfl ⟨rfl, Below.set2 B30_.out (by omega) _ _⟩
set_option maxHeartbeats 4000000 in
theorem counts_31 (bl bh ll lh p q : Int) (hr : countsX ⟨bl, bh⟩ ⟨ll, lh⟩ 32 = ⟨p, q⟩) (w : World) : Calls Tryz.prog 42 #[.agg #[.int .i64 bl, .int .i64 bh], .agg #[.int .i64 ll, .int .i64 lh], .int .i64 31] w (RetE w p q) := by
  have b1 := Lib.hid ((((Blk.new w 30 #[.int .i64 bl, .int .i64 bh]).alloc (.cells #[.int .i64 ll, .int .i64 lh] 30)).alloc (.cells zE 30)).alloc (.cells #[.int .i64 0, .int .i64 31] 30))
  have b2 := Lib.hid (((new2 w (.cells #[.int .i64 bl, .int .i64 bh] 30) 30 #[.int .i64 ll, .int .i64 lh]).alloc (.cells zE 30)).alloc (.cells #[.int .i64 0, .int .i64 31] 30))
  have b3 := Lib.hid ((new3 w (.cells #[.int .i64 bl, .int .i64 bh] 30) (.cells #[.int .i64 ll, .int .i64 lh] 30) 30 zE).alloc (.cells #[.int .i64 0, .int .i64 31] 30))
  have b4 := Lib.hid (new4 w (.cells #[.int .i64 bl, .int .i64 bh] 30) (.cells #[.int .i64 ll, .int .i64 lh] 30) (.cells zE 30) 30 #[.int .i64 0, .int .i64 31])
  have H4 := Lib.hid (box4 w (.cells #[.int .i64 bl, .int .i64 bh] 30) (.cells #[.int .i64 ll, .int .i64 lh] 30) (.cells zE 30) (.cells #[.int .i64 0, .int .i64 31] 30))
  unfold countsX at hr
  have HG := Lib.hid (fun w => single_any bl bh w)
  have HW := Lib.hid (fun w => within_any ll lh 0 31 w)
  dsimp only at hr
  by_cases hs : bl = bh
  · rw [if_pos hs] at hr
    obtain ⟨rfl, rfl⟩ := e_eq hr
    subst hs
    rw [show (bl == bl) = true from beq_self_eq_true bl] at HG
    have HM := Lib.hid (and31' bl)
    clear hr
    go_enter Tryz.func42, Tryz.ntmps42
    go_wp2_with fail
    refine (HG.out _).mono ?_
    rintro e w1 ⟨rfl, hB⟩
    have X1_ := Lib.hid (b1.out.up hB)
    have X2_ := Lib.hid (b2.out.up hB)
    have X3_ := Lib.hid (b3.out.up hB)
    have X4_ := Lib.hid (b4.out.up hB)
    have B5_ := Lib.hid (nx H4.out hB)
    clear hB
    obtain ⟨c6_, c7_, c8_, c9_, c10_⟩ := cells2 X1_.out
    obtain ⟨c11_, c12_, c13_, c14_, c15_⟩ := cells2 X2_.out
    obtain ⟨c16_, c17_, c18_, c19_, c20_⟩ := cells2 X3_.out
    obtain ⟨c21_, c22_, c23_, c24_, c25_⟩ := cells2 X4_.out
    go_wp2_with fail
    rw [HM.out]
    exact bodyPost_ret (v := .agg #[.int .i64 _, .int .i64 _]) (results_cell_row Tryz.results42 _ _ (w.heap.size + 2) 30 #[.int .i64 _, .int .i64 _] (0, 0) _ rfl (set2 X3_.out _ _) Tryz.underlying30 rfl (by kernel_rfl)) rfl ⟨rfl, Below.set2 B5_.out (by omega) _ _⟩
  · rw [if_neg hs] at hr
    have hs2 : (bl == bh) = false := by simpa using hs
    rw [hs2] at HG
    clear hs hs2
    cases hw : withinB ⟨ll, lh⟩ ⟨0, 31⟩
    · rw [show withinB ⟨ll, lh⟩ ⟨0, 32 - 1⟩ = false from hw] at hr
      rw [hw] at HW
      obtain ⟨rfl, rfl⟩ := e_eq (show (⟨0, 31⟩ : E) = _ from hr)
      clear hr hw
      go_enter Tryz.func42, Tryz.ntmps42
      go_wp2_with fail
      refine (HG.out _).mono ?_
      rintro e w1 ⟨rfl, hB⟩
      have X1_ := Lib.hid (b1.out.up hB)
      have X2_ := Lib.hid (b2.out.up hB)
      have X3_ := Lib.hid (b3.out.up hB)
      have X4_ := Lib.hid (b4.out.up hB)
      have B5_ := Lib.hid (nx H4.out hB)
      clear hB
      obtain ⟨c6_, c7_, c8_, c9_, c10_⟩ := cells2 X1_.out
      obtain ⟨c11_, c12_, c13_, c14_, c15_⟩ := cells2 X2_.out
      obtain ⟨c16_, c17_, c18_, c19_, c20_⟩ := cells2 X3_.out
      obtain ⟨c21_, c22_, c23_, c24_, c25_⟩ := cells2 X4_.out
      go_wp2_with fail
      refine (HW.out _).mono ?_
      rintro e w2 ⟨rfl, hB⟩
      have X26_ := Lib.hid (X1_.out.up hB)
      have X27_ := Lib.hid (X2_.out.up hB)
      have X28_ := Lib.hid (X3_.out.up hB)
      have X29_ := Lib.hid (X4_.out.up hB)
      have B30_ := Lib.hid (nx B5_.out hB)
      clear hB
      clear c6_ c7_ c8_ c9_ c10_ c11_ c12_ c13_ c14_ c15_ c16_ c17_ c18_ c19_ c20_ c21_ c22_ c23_ c24_ c25_
      obtain ⟨c31_, c32_, c33_, c34_, c35_⟩ := cells2 X26_.out
      obtain ⟨c36_, c37_, c38_, c39_, c40_⟩ := cells2 X27_.out
      obtain ⟨c41_, c42_, c43_, c44_, c45_⟩ := cells2 X28_.out
      obtain ⟨c46_, c47_, c48_, c49_, c50_⟩ := cells2 X29_.out
      go_wp2_with fail
      exact bodyPost_ret (v := .agg #[.int .i64 _, .int .i64 _]) (results_cell_row Tryz.results42 _ _ (w.heap.size + 2) 30 #[.int .i64 _, .int .i64 _] (0, 0) _ rfl (set2 X28_.out _ _) Tryz.underlying30 rfl (by kernel_rfl)) rfl ⟨rfl, Below.set2 B30_.out (by omega) _ _⟩
    · rw [show withinB ⟨ll, lh⟩ ⟨0, 32 - 1⟩ = true from hw] at hr
      rw [hw] at HW
      obtain ⟨rfl, rfl⟩ := e_eq hr
      clear hr hw
      go_enter Tryz.func42, Tryz.ntmps42
      go_wp2_with fail
      refine (HG.out _).mono ?_
      rintro e w1 ⟨rfl, hB⟩
      have X1_ := Lib.hid (b1.out.up hB)
      have X2_ := Lib.hid (b2.out.up hB)
      have X3_ := Lib.hid (b3.out.up hB)
      have X4_ := Lib.hid (b4.out.up hB)
      have B5_ := Lib.hid (nx H4.out hB)
      clear hB
      obtain ⟨c6_, c7_, c8_, c9_, c10_⟩ := cells2 X1_.out
      obtain ⟨c11_, c12_, c13_, c14_, c15_⟩ := cells2 X2_.out
      obtain ⟨c16_, c17_, c18_, c19_, c20_⟩ := cells2 X3_.out
      obtain ⟨c21_, c22_, c23_, c24_, c25_⟩ := cells2 X4_.out
      go_wp2_with fail
      refine (HW.out _).mono ?_
      rintro e w2 ⟨rfl, hB⟩
      have X26_ := Lib.hid (X1_.out.up hB)
      have X27_ := Lib.hid (X2_.out.up hB)
      have X28_ := Lib.hid (X3_.out.up hB)
      have X29_ := Lib.hid (X4_.out.up hB)
      have B30_ := Lib.hid (nx B5_.out hB)
      clear hB
      clear c6_ c7_ c8_ c9_ c10_ c11_ c12_ c13_ c14_ c15_ c16_ c17_ c18_ c19_ c20_ c21_ c22_ c23_ c24_ c25_
      obtain ⟨c31_, c32_, c33_, c34_, c35_⟩ := cells2 X26_.out
      obtain ⟨c36_, c37_, c38_, c39_, c40_⟩ := cells2 X27_.out
      obtain ⟨c41_, c42_, c43_, c44_, c45_⟩ := cells2 X28_.out
      obtain ⟨c46_, c47_, c48_, c49_, c50_⟩ := cells2 X29_.out
      go_wp2_with fail
      exact bodyPost_ret (v := .agg #[.int .i64 _, .int .i64 _]) (results_cell_row Tryz.results42 _ _ (w.heap.size + 2) 30 #[.int .i64 _, .int .i64 _] (0, 0) _ rfl (set2 X28_.out _ _) Tryz.underlying30 rfl (by kernel_rfl)) rfl ⟨rfl, Below.set2 B30_.out (by omega) _ _⟩
/-- what a call of operands hands back -/
def RetO (w : World) (op pl ph ql qh : Int) (e : Ending) (w' : World) : Prop := e = .returned (.tuple #[.int .i64 op, .agg #[.int .i64 pl, .int .i64 ph], .agg #[.int .i64 ql, .int .i64 qh]]) ∧ Below w.heap.size w w'
theorem results_cell_tmp {P : Program} {fn : Func} {p q : Tmp} {ty : TypeId} (h : fn.results = #[.cell p ty, .tmp q]) (tmps : Array Value) (w : World) (g : Nat) (t : TypeId) (cs : Array Value) (fr : Nat × Nat) (d : TypeDesc) (v : Value)
    (hp : tmps.getD p undef = .pointer (some ⟨g, 0, none⟩)) (hq : tmps.getD q undef = v) (hg : w.heap[g]? = some (.cells cs t fr))
    (hu : P.underlying ty = some d) (hd : (match d with | .struct _ | .array _ _ => true | _ => false) = true) (hi : (P.info? ty).map (·.size) = some cs.size) :
    (results fn tmps).run P w = .ok (.tuple #[.agg cs, v]) w := by
  have hp' : tmps[p]?.getD undef = .pointer (some ⟨g, 0, none⟩) := by simpa using hp
  have hq' : tmps[q]?.getD undef = v := by simpa using hq
  simp [results, h, hp', hq', asAddr, run_loadVar_row w g t ty cs fr d hg hu hd hi]
theorem results_tmp_cells {P : Program} {fn : Func} {q p p2 : Tmp} {ty : TypeId} (h : fn.results = #[.tmp q, .cell p ty, .cell p2 ty]) (tmps : Array Value) (w : World) (g g2 : Nat) (t : TypeId) (cs cs2 : Array Value) (fr : Nat × Nat) (d : TypeDesc) (v : Value)
    (hq : tmps.getD q undef = v) (hp : tmps.getD p undef = .pointer (some ⟨g, 0, none⟩)) (hp2 : tmps.getD p2 undef = .pointer (some ⟨g2, 0, none⟩)) (hg : w.heap[g]? = some (.cells cs t fr)) (hg2 : w.heap[g2]? = some (.cells cs2 t fr))
    (hu : P.underlying ty = some d) (hd : (match d with | .struct _ | .array _ _ => true | _ => false) = true) (hi : (P.info? ty).map (·.size) = some cs.size) (hi2 : (P.info? ty).map (·.size) = some cs2.size) :
    (results fn tmps).run P w = .ok (.tuple #[v, .agg cs, .agg cs2]) w := by
  have hp' : tmps[p]?.getD undef = .pointer (some ⟨g, 0, none⟩) := by simpa using hp
  have hp2' : tmps[p2]?.getD undef = .pointer (some ⟨g2, 0, none⟩) := by simpa using hp2
  have hq' : tmps[q]?.getD undef = v := by simpa using hq
  simp [results, h, hp', hq', hp2', asAddr, run_loadVar_row w g t ty cs fr d hg hu hd hi, run_loadVar_row w g2 t ty cs2 fr d hg2 hu hd hi2]
theorem far2 {w : World} {g g' : Nat} {t : TypeId} {cs : Array Value} (h : Blk w g t cs) (hn : g ≠ g') (a b : Value) : Blk ((w.setCell ⟨g', 0, none⟩ a).setCell ⟨g', 1, none⟩ b) g t cs := (h.far (p := ⟨g', 0, none⟩) hn a).far (p := ⟨g', 1, none⟩) hn b
theorem new5 (w : World) (o o2 o3 o4 : Obj) (t : TypeId) (cs : Array Value) : Blk (((((w.alloc o).alloc o2).alloc o3).alloc o4).alloc (.cells cs t)) (w.heap.size + 4) t cs := by
  have := Blk.new ((((w.alloc o).alloc o2).alloc o3).alloc o4) t cs
  rwa [size1, size1, size1, size1] at this
theorem box5 (w : World) (o o2 o3 o4 o5 : Obj) : Below w.heap.size w (((((w.alloc o).alloc o2).alloc o3).alloc o4).alloc o5) := nx (box4 w o o2 o3 o4) (below_box' _ o5)
/-- the five boxes of operands -/
def OpW (w0 : World) (al ah bl bh cl ch : Int) (w : World) : Prop :=
  Blk w w0.heap.size 30 #[.int .i64 al, .int .i64 ah] ∧ Blk w (w0.heap.size + 1) 30 #[.int .i64 bl, .int .i64 bh] ∧ Blk w (w0.heap.size + 2) 30 #[.int .i64 cl, .int .i64 ch] ∧
  (∃ a b, Blk w (w0.heap.size + 3) 30 #[a, b]) ∧ (∃ a b, Blk w (w0.heap.size + 4) 30 #[a, b]) ∧ Below w0.heap.size w0 w
theorem OpW.start (w : World) (al ah bl bh cl ch : Int) (x3 y3 x4 y4 : Value) : OpW w al ah bl bh cl ch (((((w.alloc (.cells #[.int .i64 al, .int .i64 ah] 30)).alloc (.cells #[.int .i64 bl, .int .i64 bh] 30)).alloc (.cells #[.int .i64 cl, .int .i64 ch] 30)).alloc (.cells #[x3, y3] 30)).alloc (.cells #[x4, y4] 30)) :=
  ⟨((((Blk.new w _ _).alloc _).alloc _).alloc _).alloc _, (((new2 w _ _ _).alloc _).alloc _).alloc _, ((new3 w _ _ _ _).alloc _).alloc _, ⟨_, _, (new4 w _ _ _ _ _).alloc _⟩, ⟨_, _, new5 w _ _ _ _ _ _⟩, box5 w _ _ _ _ _⟩
theorem OpW.cells {w0 w : World} {al ah bl bh cl ch : Int} (h : OpW w0 al ah bl bh cl ch w) :
    (w.cell? ⟨w0.heap.size, 0, none⟩ = some (.int .i64 al) ∧ w.cell? ⟨w0.heap.size, 1, none⟩ = some (.int .i64 ah) ∧ w.cell? ⟨w0.heap.size + 1, 0, none⟩ = some (.int .i64 bl) ∧ w.cell? ⟨w0.heap.size + 1, 1, none⟩ = some (.int .i64 bh) ∧ w.cell? ⟨w0.heap.size + 2, 0, none⟩ = some (.int .i64 cl) ∧ w.cell? ⟨w0.heap.size + 2, 1, none⟩ = some (.int .i64 ch) ∧
    w.frozen? ⟨w0.heap.size + 3, 0, none⟩ = false ∧ w.frozen? ⟨w0.heap.size + 3, 1, none⟩ = false ∧ w.frozen? ⟨w0.heap.size + 4, 0, none⟩ = false ∧ w.frozen? ⟨w0.heap.size + 4, 1, none⟩ = false) ∧ OpW w0 al ah bl bh cl ch w := by
  obtain ⟨a0, a1, -⟩ := cells2 h.1
  obtain ⟨b0, b1, -⟩ := cells2 h.2.1
  obtain ⟨c0, c1, -⟩ := cells2 h.2.2.1
  obtain ⟨_, _, h4⟩ := h.2.2.2.1
  obtain ⟨_, _, h5⟩ := h.2.2.2.2.1
  exact ⟨⟨a0, a1, b0, b1, c0, c1, h4.frozen 0, h4.frozen 1, h5.frozen 0, h5.frozen 1⟩, h⟩
theorem OpW.set3 {w0 w : World} {al ah bl bh cl ch : Int} (h : OpW w0 al ah bl bh cl ch w) (a b : Value) : OpW w0 al ah bl bh cl ch ((w.setCell ⟨w0.heap.size + 3, 0, none⟩ a).setCell ⟨w0.heap.size + 3, 1, none⟩ b) := by
  obtain ⟨h1, h2, h3, ⟨_, _, h4⟩, ⟨_, _, h5⟩, h6⟩ := h
  exact ⟨far2 h1 (by omega) _ _, far2 h2 (by omega) _ _, far2 h3 (by omega) _ _, ⟨_, _, set2 h4 _ _⟩, ⟨_, _, far2 h5 (by omega) _ _⟩, Below.set2 h6 (by omega) _ _⟩
theorem OpW.set4 {w0 w : World} {al ah bl bh cl ch : Int} (h : OpW w0 al ah bl bh cl ch w) (a b : Value) : OpW w0 al ah bl bh cl ch ((w.setCell ⟨w0.heap.size + 4, 0, none⟩ a).setCell ⟨w0.heap.size + 4, 1, none⟩ b) := by
  obtain ⟨h1, h2, h3, ⟨_, _, h4⟩, ⟨_, _, h5⟩, h6⟩ := h
  exact ⟨far2 h1 (by omega) _ _, far2 h2 (by omega) _ _, far2 h3 (by omega) _ _, ⟨_, _, far2 h4 (by omega) _ _⟩, ⟨_, _, set2 h5 _ _⟩, Below.set2 h6 (by omega) _ _⟩
theorem OpW.drew {w0 w : World} {al ah bl bh cl ch : Int} (h : OpW w0 al ah bl bh cl ch w) : OpW w0 al ah bl bh cl ch w.drew := by
  obtain ⟨h1, h2, h3, ⟨_, _, h4⟩, ⟨_, _, h5⟩, h6⟩ := h
  exact ⟨h1.drew, h2.drew, h3.drew, ⟨_, _, h4.drew⟩, ⟨_, _, h5.drew⟩, h6.drew⟩
theorem opS {w w' : World} {al ah bl bh cl ch : Int} (h : OpW w al ah bl bh cl ch w') : w'.cell? ⟨w.heap.size, 0, none⟩ = some (.int .i64 al) ∧ w'.cell? ⟨w.heap.size, 1, none⟩ = some (.int .i64 ah) ∧ w'.cell? ⟨w.heap.size + 1, 0, none⟩ = some (.int .i64 bl) ∧ w'.cell? ⟨w.heap.size + 1, 1, none⟩ = some (.int .i64 bh) ∧ w'.cell? ⟨w.heap.size + 1 + 1, 0, none⟩ = some (.int .i64 cl) ∧ w'.cell? ⟨w.heap.size + 1 + 1, 1, none⟩ = some (.int .i64 ch) ∧ w'.frozen? ⟨w.heap.size + 1 + 1 + 1, 0, none⟩ = false ∧ w'.frozen? ⟨w.heap.size + 1 + 1 + 1, 1, none⟩ = false ∧ w'.frozen? ⟨w.heap.size + 1 + 1 + 1 + 1, 0, none⟩ = false ∧ w'.frozen? ⟨w.heap.size + 1 + 1 + 1 + 1, 1, none⟩ = false ∧ OpW w al ah bl bh cl ch w' := by
  obtain ⟨⟨a, b, c, d, e, f, g, i, j, k⟩, l⟩ := h.cells
  exact ⟨a, b, c, d, e, f, g, i, j, k, l⟩
set_option maxHeartbeats 4000000 in
theorem oper_sh (op al ah bl bh cl ch z : Int) (h : op = 11 ∨ op = 12 ∨ op = 13) (w : World) : Calls Tryz.prog 41 #[.int .i64 op, .agg #[.int .i64 al, .int .i64 ah], .agg #[.int .i64 bl, .int .i64 bh], .agg #[.int .i64 cl, .int .i64 ch], .int .i64 z] w (RetO w op al ah cl ch) := by
  have H0 := Lib.hid (fun x3 y3 x4 y4 => (OpW.start w al ah bl bh cl ch x3 y3 x4 y4).drew)
  rcases h with rfl | rfl | rfl
  all_goals
    go_enter Tryz.func41, Tryz.ntmps41
    go_wp2_with fail
    go_region_held3 (fun w' => w'.cell? ⟨w.heap.size, 0, none⟩ = some (.int .i64 al) ∧ w'.cell? ⟨w.heap.size, 1, none⟩ = some (.int .i64 ah) ∧ w'.cell? ⟨w.heap.size + 1, 0, none⟩ = some (.int .i64 bl) ∧ w'.cell? ⟨w.heap.size + 1, 1, none⟩ = some (.int .i64 bh) ∧ w'.cell? ⟨w.heap.size + 1 + 1, 0, none⟩ = some (.int .i64 cl) ∧ w'.cell? ⟨w.heap.size + 1 + 1, 1, none⟩ = some (.int .i64 ch) ∧ w'.frozen? ⟨w.heap.size + 1 + 1 + 1, 0, none⟩ = false ∧ w'.frozen? ⟨w.heap.size + 1 + 1 + 1, 1, none⟩ = false ∧ w'.frozen? ⟨w.heap.size + 1 + 1 + 1 + 1, 0, none⟩ = false ∧ w'.frozen? ⟨w.heap.size + 1 + 1 + 1 + 1, 1, none⟩ = false ∧ OpW w al ah bl bh cl ch w') (with_reducible exact opS (H0.out _ _ _ _)) (first | fail)
    rename_i hh
    clear hh
    go_wp2_with fail
    exact bodyPost_ret (v := .tuple #[.int .i64 _, .agg #[.int .i64 _, .int .i64 _], .agg #[.int .i64 _, .int .i64 _]]) (results_tmp_cells Tryz.results41 _ _ (w.heap.size + 3) (w.heap.size + 4) 30 #[.int .i64 _, .int .i64 _] #[.int .i64 _, .int .i64 _] (0, 0) _ _ rfl rfl rfl ((new4 w _ _ _ _ _).alloc _).drew (new5 w _ _ _ _ _ _).drew Tryz.underlying30 rfl (by kernel_rfl) (by kernel_rfl)) rfl ⟨rfl, (box5 w _ _ _ _ _).drew⟩
set_option maxHeartbeats 4000000 in
theorem oper_neg (op al ah bl bh cl ch z : Int)  (w : World) : Calls Tryz.prog 41 #[.int .i64 14, .agg #[.int .i64 al, .int .i64 ah], .agg #[.int .i64 bl, .int .i64 bh], .agg #[.int .i64 cl, .int .i64 ch], .int .i64 z] w (RetO w 2 z z al ah) := by
  have H0 := Lib.hid (fun x3 y3 x4 y4 => (OpW.start w al ah bl bh cl ch x3 y3 x4 y4).drew)
  all_goals
    go_enter Tryz.func41, Tryz.ntmps41
    go_wp2_with fail
    go_region_held3 (fun w' => w'.cell? ⟨w.heap.size, 0, none⟩ = some (.int .i64 al) ∧ w'.cell? ⟨w.heap.size, 1, none⟩ = some (.int .i64 ah) ∧ w'.cell? ⟨w.heap.size + 1, 0, none⟩ = some (.int .i64 bl) ∧ w'.cell? ⟨w.heap.size + 1, 1, none⟩ = some (.int .i64 bh) ∧ w'.cell? ⟨w.heap.size + 1 + 1, 0, none⟩ = some (.int .i64 cl) ∧ w'.cell? ⟨w.heap.size + 1 + 1, 1, none⟩ = some (.int .i64 ch) ∧ w'.frozen? ⟨w.heap.size + 1 + 1 + 1, 0, none⟩ = false ∧ w'.frozen? ⟨w.heap.size + 1 + 1 + 1, 1, none⟩ = false ∧ w'.frozen? ⟨w.heap.size + 1 + 1 + 1 + 1, 0, none⟩ = false ∧ w'.frozen? ⟨w.heap.size + 1 + 1 + 1 + 1, 1, none⟩ = false ∧ OpW w al ah bl bh cl ch w') (with_reducible exact opS (H0.out _ _ _ _)) (first | fail)
    rename_i hh
    clear hh
    go_wp2_with fail
    exact bodyPost_ret (v := .tuple #[.int .i64 _, .agg #[.int .i64 _, .int .i64 _], .agg #[.int .i64 _, .int .i64 _]]) (results_tmp_cells Tryz.results41 _ _ (w.heap.size + 3) (w.heap.size + 4) 30 #[.int .i64 _, .int .i64 _] #[.int .i64 _, .int .i64 _] (0, 0) _ _ rfl rfl rfl ((new4 w _ _ _ _ _).alloc _).drew (new5 w _ _ _ _ _ _).drew Tryz.underlying30 rfl (by kernel_rfl) (by kernel_rfl)) rfl ⟨rfl, (box5 w _ _ _ _ _).drew⟩
set_option maxHeartbeats 4000000 in
theorem oper_else (op al ah bl bh cl ch z : Int) (h : op ≠ 11 ∧ op ≠ 12 ∧ op ≠ 13 ∧ op ≠ 14) (w : World) : Calls Tryz.prog 41 #[.int .i64 op, .agg #[.int .i64 al, .int .i64 ah], .agg #[.int .i64 bl, .int .i64 bh], .agg #[.int .i64 cl, .int .i64 ch], .int .i64 z] w (RetO w op al ah bl bh) := by
  have H0 := Lib.hid (fun x3 y3 x4 y4 => (OpW.start w al ah bl bh cl ch x3 y3 x4 y4).drew)
  obtain ⟨h11, h12, h13, h14⟩ := h
  have t11 : (op == 11) = false := by simpa using h11
  have t12 : (op == 12) = false := by simpa using h12
  have t13 : (op == 13) = false := by simpa using h13
  have t14 : (op == 14) = false := by simpa using h14
  clear h11 h12 h13 h14
  all_goals
    go_enter Tryz.func41, Tryz.ntmps41
    go_wp2_with fail
    go_region_held3 (fun w' => w'.cell? ⟨w.heap.size, 0, none⟩ = some (.int .i64 al) ∧ w'.cell? ⟨w.heap.size, 1, none⟩ = some (.int .i64 ah) ∧ w'.cell? ⟨w.heap.size + 1, 0, none⟩ = some (.int .i64 bl) ∧ w'.cell? ⟨w.heap.size + 1, 1, none⟩ = some (.int .i64 bh) ∧ w'.cell? ⟨w.heap.size + 1 + 1, 0, none⟩ = some (.int .i64 cl) ∧ w'.cell? ⟨w.heap.size + 1 + 1, 1, none⟩ = some (.int .i64 ch) ∧ w'.frozen? ⟨w.heap.size + 1 + 1 + 1, 0, none⟩ = false ∧ w'.frozen? ⟨w.heap.size + 1 + 1 + 1, 1, none⟩ = false ∧ w'.frozen? ⟨w.heap.size + 1 + 1 + 1 + 1, 0, none⟩ = false ∧ w'.frozen? ⟨w.heap.size + 1 + 1 + 1 + 1, 1, none⟩ = false ∧ OpW w al ah bl bh cl ch w') (with_reducible exact opS (H0.out _ _ _ _)) (first | fail)
    rename_i hh
    clear hh
    go_wp2_with fail
    exact bodyPost_ret (v := .tuple #[.int .i64 _, .agg #[.int .i64 _, .int .i64 _], .agg #[.int .i64 _, .int .i64 _]]) (results_tmp_cells Tryz.results41 _ _ (w.heap.size + 3) (w.heap.size + 4) 30 #[.int .i64 _, .int .i64 _] #[.int .i64 _, .int .i64 _] (0, 0) _ _ rfl rfl rfl ((new4 w _ _ _ _ _).alloc _).drew (new5 w _ _ _ _ _ _).drew Tryz.underlying30 rfl (by kernel_rfl) (by kernel_rfl)) rfl ⟨rfl, (box5 w _ _ _ _ _).drew⟩
theorem oper_any (op al ah bl bh cl ch z o pl ph ql qh : Int) (hr : operX op ⟨al, ah⟩ ⟨bl, bh⟩ ⟨cl, ch⟩ z = (o, ⟨pl, ph⟩, ⟨ql, qh⟩)) (w : World) : Calls Tryz.prog 41 #[.int .i64 op, .agg #[.int .i64 al, .int .i64 ah], .agg #[.int .i64 bl, .int .i64 bh], .agg #[.int .i64 cl, .int .i64 ch], .int .i64 z] w (RetO w o pl ph ql qh) := by
  unfold operX at hr
  by_cases h1 : op = 11 ∨ op = 12 ∨ op = 13
  · rw [if_pos h1] at hr
    injection hr with e1 e2
    injection e2 with e2 e3
    obtain ⟨rfl, rfl⟩ := e_eq e2
    obtain ⟨rfl, rfl⟩ := e_eq e3
    subst e1
    exact oper_sh op _ _ bl bh _ _ z h1 w
  · rw [if_neg h1] at hr
    by_cases h2 : op = 14
    · rw [if_pos h2] at hr
      injection hr with e1 e2
      injection e2 with e2 e3
      obtain ⟨rfl, rfl⟩ := e_eq e2
      obtain ⟨rfl, rfl⟩ := e_eq e3
      subst e1 h2
      exact oper_neg 14 _ _ bl bh cl ch _ w
    · rw [if_neg h2] at hr
      injection hr with e1 e2
      injection e2 with e2 e3
      obtain ⟨rfl, rfl⟩ := e_eq e2
      obtain ⟨rfl, rfl⟩ := e_eq e3
      subst e1
      exact oper_else op _ _ _ _ cl ch z ⟨fun e => h1 (.inl e), fun e => h1 (.inr (.inl e)), fun e => h1 (.inr (.inr e)), h2⟩ w
end Spc
end Go.Proofs.YtjhgjplhhhgfcaaGreat
