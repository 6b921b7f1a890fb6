/- Contracts of package span: all, single, within, end, naturals, tell, signs. -/
import Derived.Test.YtjhgjplhhhgfcaaGreatSpM3
import Derived.Test.YtjhgjplhhhgfcaaGreatOwn
import Derived.WalkKit
import Derived.ProofKit
import Derived.OpenShut
import Derived.Lib.Hide
import Derived.Laws.Rows
namespace Go.Proofs.YtjhgjplhhhgfcaaGreat
open Go.ChangeShapes Go.WideShapes Go.ChangeAt Go.RowKit
open Spn
namespace Spc
set_option linter.unusedVariables false
set_option maxRecDepth 100000

/-- a call that hands back two ends -/
def RetE (w : World) (l h : Int) (e : Ending) (w' : World) : Prop := e = .returned (.agg #[.int .i64 l, .int .i64 h]) ∧ Below w.heap.size w w'
/-- a call that hands back a span -/
def RetS (w : World) (l h : Int) (p q : Bool) (e : Ending) (w' : World) : Prop := e = .returned (.agg #[.int .i64 l, .int .i64 h, .bool p, .bool q]) ∧ Below w.heap.size w w'
def RetB (w : World) (b : Bool) (e : Ending) (w' : World) : Prop := e = .returned (.bool b) ∧ Below w.heap.size w w'
theorem below_box' (w : World) (o : Obj) : Below w.heap.size w (w.alloc o) := (Below.refl _ _).alloc (Nat.le_refl _) o
theorem e_eq {a b c d : Int} (h : (⟨a, b⟩ : E) = ⟨c, d⟩) : a = c ∧ b = d := by injection h with h1 h2; exact ⟨h1, h2⟩
theorem ret_b {a b : Bool} (h : a = b) : Ending.returned (.bool a) = .returned (.bool b) := by rw [h]
theorem all_any (w : World) : Calls Tryz.prog 25 #[] w (RetE w (-9223372036854775808) 9223372036854775807) := by
  go_enter Tryz.func25, Tryz.ntmps25
  go_wp2_with fail
  exact bodyPost_ret (v := .agg #[.int .i64 (-9223372036854775808), .int .i64 9223372036854775807]) (results_cell_row Tryz.results25 _ _ w.heap.size 30 #[.int .i64 (-9223372036854775808), .int .i64 9223372036854775807] (0, 0) _ rfl (Blk.new w _ _) Tryz.underlying30 rfl (by kernel_rfl)) rfl ⟨rfl, below_box' w _⟩
theorem single_any (l h : Int) (w : World) : Calls Tryz.prog 23 #[.agg #[.int .i64 l, .int .i64 h]] w (RetB w (l == h)) := by
  go_enter Tryz.func23, Tryz.ntmps23
  go_wp2_with fail
  go_ret
  exact ⟨rfl, below_box' w _⟩
theorem within_any (l h rl rh : Int) (w : World) : Calls Tryz.prog 35 #[.agg #[.int .i64 l, .int .i64 h], .agg #[.int .i64 rl, .int .i64 rh]] w (RetB w (withinB ⟨l, h⟩ ⟨rl, rh⟩)) := by
  unfold withinB
  dsimp only
  go_enter Tryz.func35, Tryz.ntmps35
  by_cases h1 : rl ≤ l
  · go_wp2_with fail
    go_ret
    exact ⟨by simp; omega, (below_box' w _).alloc (by simp) _⟩
  · go_wp2_with fail
    go_ret
    exact ⟨by simp; omega, (below_box' w _).alloc (by simp) _⟩
theorem end_any (n : Bool) (v : Int) (w : World) : Calls Tryz.prog 38 #[.bool n, .int .i64 v] w fun e w' => e = .returned (.bool (endB n v)) ∧ w = w' := by
  unfold endB MX
  cases n
  · by_cases h1 : -1152921504606846976 ≤ v
    · go_enter Tryz.func38, Tryz.ntmps38
      go_wp2_with fail
      go_ret
      exact ⟨by simp; try omega, rfl⟩
    · go_enter Tryz.func38, Tryz.ntmps38
      go_wp2_with fail
      go_ret
      exact ⟨by simp; try omega, rfl⟩
  · go_enter Tryz.func38, Tryz.ntmps38
    go_wp2_with fail
    go_ret
    exact ⟨rfl, rfl⟩
theorem nat_lt {k : Nat} (h : k ≤ 63) : (0 : Int) < 2 ^ k ∧ (2 : Int) ^ k ≤ 9223372036854775808 := by
  have h1 := pow2_le h
  rw [show (2 : Int) ^ 63 = 9223372036854775808 from rfl] at h1
  exact ⟨pow2_pos k, h1⟩
theorem nat_math {k : Nat} (h : k ≤ 63) (m : Int) (hm : (2 : Int) ^ k - 1 = m) : wrap64 (IntKind.u64.wrap (IntKind.u64.wrap (2 ^ k) - 1)) = m := by
  have h1 := nat_lt h
  rw [IntWalk.u64_in (2 ^ k) (by omega), IntWalk.u64_in _ (by omega), IntWalk.wrap64_in _ (by omega), hm]
theorem nat_any (k : Nat) (hk : k ≤ 63) (m : Int) (hm : (2 : Int) ^ k - 1 = m) (w : World) : Calls Tryz.prog 40 #[.int .i64 k] w (RetE w 0 m) := by
  have HM := Lib.hid (nat_math hk m hm)
  clear hm
  go_enter Tryz.func40, Tryz.ntmps40
  go_wp2_with fail
  rw [HM.out]
  exact bodyPost_ret (v := .agg #[.int .i64 0, .int .i64 m]) (results_cell_row Tryz.results40 _ _ w.heap.size 30 #[.int .i64 0, .int .i64 m] (0, 0) _ rfl (Blk.new w _ _) Tryz.underlying30 rfl (by kernel_rfl)) rfl ⟨rfl, below_box' w _⟩
theorem tell_any (s q : Int) (hs : s = 6 ∨ s = 5 ∨ s = 1 ∨ s = 0) (hq : q = 0 ∨ q = 1 ∨ q = 2 ∨ q = 4 ∨ q = 5) (w : World) :
    Calls Tryz.prog 70 #[.int .i64 s, .int .i64 q] w fun e w' => e = .returned (.bool (tells s q)) ∧ w = w' := by
  have e : (bits BinOp.and IntKind.i64 s q == q) = tells s q := by
    rcases hs with rfl | rfl | rfl | rfl <;> rcases hq with rfl | rfl | rfl | rfl | rfl <;> kernel_rfl
  have HE := Lib.hid e
  clear e hs hq
  go_enter Tryz.func70, Tryz.ntmps70
  go_wp2_with fail
  go_ret
  exact ⟨ret_b HE.out, rfl⟩
theorem signs_any (l h : Int) (w : World) : Calls Tryz.prog 68 #[.agg #[.int .i64 l, .int .i64 h]] w fun e w' => e = .returned (.int .i64 (sgX ⟨l, h⟩)) ∧ Below w.heap.size w w' := by
  unfold sgX
  dsimp only
  by_cases h1 : h < 0
  · rw [if_pos h1]
    go_enter Tryz.func68, Tryz.ntmps68
    go_wp2_with fail
    go_ret
    exact ⟨rfl, below_box' w _⟩
  · by_cases h2 : 0 < l
    · rw [if_neg h1, if_pos h2]
      go_enter Tryz.func68, Tryz.ntmps68
      go_wp2_with fail
      go_ret
      exact ⟨rfl, below_box' w _⟩
    · by_cases h3 : l = 0
      · subst h3
        rw [if_neg h1, if_neg h2, if_pos rfl]
        go_enter Tryz.func68, Tryz.ntmps68
        go_wp2_with fail
        go_ret
        exact ⟨rfl, below_box' w _⟩
      · rw [if_neg h1, if_neg h2, if_neg h3]
        have h3' : (l == 0) = false := by simpa using h3
        clear h3
        go_enter Tryz.func68, Tryz.ntmps68
        go_wp2_with fail
        go_ret
        exact ⟨rfl, below_box' w _⟩
theorem and32 (x : Int) : bits BinOp.and IntKind.i64 x 4294967295 = x % 4294967296 := by
  show IntKind.i64.wrap (((BitVec.ofInt 64 x &&& BitVec.ofInt 64 4294967295).toNat : Nat) : Int) = x % 4294967296
  have e1 : (BitVec.ofInt 64 (4294967295 : Int)).toNat = 2 ^ 32 - 1 := rfl
  rw [BitVec.toNat_and, e1, Nat.and_two_pow_sub_one_eq_mod, BitVec.toNat_ofInt]
  have e2 : (((x % ((2 ^ 64 : Nat) : Int)).toNat % 2 ^ 32 : Nat) : Int) = x % 4294967296 := by
    rw [Int.natCast_emod, Int.toNat_of_nonneg (Int.emod_nonneg _ (by decide))]
    exact Int.emod_emod_of_dvd x ⟨4294967296, rfl⟩
  rw [e2]
  exact IntWalk.i64_in _ (by omega)
theorem cells2 {w : World} {g : Nat} {t : TypeId} {a b : Value} (h : Blk w g t #[a, b]) :
    w.cell? ⟨g, 0, none⟩ = some a ∧ w.cell? ⟨g, 1, none⟩ = some b ∧ w.frozen? ⟨g, 0, none⟩ = false ∧ w.frozen? ⟨g, 1, none⟩ = false ∧ g < w.heap.size := by
  refine ⟨?_, ?_, h.frozen 0, h.frozen 1, h.lt⟩ <;> rw [h.cell] <;> rfl
theorem cells4 {w : World} {g : Nat} {t : TypeId} {a b c d : Value} (h : Blk w g t #[a, b, c, d]) :
    (w.cell? ⟨g, 0, none⟩ = some a ∧ w.cell? ⟨g, 1, none⟩ = some b ∧ w.cell? ⟨g, 2, none⟩ = some c ∧ w.cell? ⟨g, 3, none⟩ = some d) ∧ (w.frozen? ⟨g, 0, none⟩ = false ∧ w.frozen? ⟨g, 1, none⟩ = false ∧ w.frozen? ⟨g, 2, none⟩ = false ∧ w.frozen? ⟨g, 3, none⟩ = false) ∧ g < w.heap.size := by
  refine ⟨⟨?_, ?_, ?_, ?_⟩, ⟨h.frozen 0, h.frozen 1, h.frozen 2, h.frozen 3⟩, h.lt⟩ <;> rw [h.cell] <;> rfl
theorem set2 {w : World} {g : Nat} {t : TypeId} {a0 b0 : Value} (h : Blk w g t #[a0, b0]) (a b : Value) : Blk ((w.setCell ⟨g, 0, none⟩ a).setCell ⟨g, 1, none⟩ b) g t #[a, b] := (h.set_ 0 a).set_ 1 b
theorem set4 {w : World} {g : Nat} {t : TypeId} {a0 b0 c0 d0 : Value} (h : Blk w g t #[a0, b0, c0, d0]) (a b c d : Value) : Blk ((((w.setCell ⟨g, 0, none⟩ a).setCell ⟨g, 1, none⟩ b).setCell ⟨g, 2, none⟩ c).setCell ⟨g, 3, none⟩ d) g t #[a, b, c, d] := (((h.set_ 0 a).set_ 1 b).set_ 2 c).set_ 3 d
theorem Below.set2 {B g : Nat} {w0 w : World} (h : Below B w0 w) (hg : B ≤ g) (a b : Value) : Below B w0 ((w.setCell ⟨g, 0, none⟩ a).setCell ⟨g, 1, none⟩ b) := (h.setCell (p := ⟨g, 0, none⟩) hg a).setCell (p := ⟨g, 1, none⟩) hg b
theorem Below.set4 {B g : Nat} {w0 w : World} (h : Below B w0 w) (hg : B ≤ g) (a b c d : Value) : Below B w0 ((((w.setCell ⟨g, 0, none⟩ a).setCell ⟨g, 1, none⟩ b).setCell ⟨g, 2, none⟩ c).setCell ⟨g, 3, none⟩ d) := (((h.setCell (p := ⟨g, 0, none⟩) hg a).setCell (p := ⟨g, 1, none⟩) hg b).setCell (p := ⟨g, 2, none⟩) hg c).setCell (p := ⟨g, 3, none⟩) hg d
theorem _root_.Go.Proofs.YtjhgjplhhhgfcaaGreat.Blk.up {w w' : World} {g : Nat} {t : TypeId} {cs : Array Value} (h : Blk w g t cs) (hb : Below w.heap.size w w') : Blk w' g t cs := h.below hb h.lt
theorem nx {w0 w w' : World} (h : Below w0.heap.size w0 w) (hb : Below w.heap.size w w') : Below w0.heap.size w0 w' := h.trans (hb.mono h.size)
abbrev zE : Array Value := #[.int .i64 0, .int .i64 0]
theorem size1 (w : World) (o : Obj) : (w.alloc o).heap.size = w.heap.size + 1 := by simp
theorem new2 (w : World) (o : Obj) (t : TypeId) (cs : Array Value) : Blk ((w.alloc o).alloc (.cells cs t)) (w.heap.size + 1) t cs := by
  have := Blk.new (w.alloc o) t cs
  rwa [size1] at this
theorem new3 (w : World) (o o2 : Obj) (t : TypeId) (cs : Array Value) : Blk (((w.alloc o).alloc o2).alloc (.cells cs t)) (w.heap.size + 2) t cs := by
  have := Blk.new ((w.alloc o).alloc o2) t cs
  rwa [size1, size1] at this
theorem box2 (w : World) (o o2 : Obj) : Below w.heap.size w ((w.alloc o).alloc o2) := nx (below_box' w o) (below_box' _ o2)
theorem box3 (w : World) (o o2 o3 : Obj) : Below w.heap.size w (((w.alloc o).alloc o2).alloc o3) := nx (box2 w o o2) (below_box' _ o3)
set_option maxHeartbeats 1000000 in
theorem low_any (l h p q : Int) (hr : lowE ⟨l, h⟩ = ⟨p, q⟩) (w : World) : Calls Tryz.prog 36 #[.agg #[.int .i64 l, .int .i64 h]] w (RetE w p q) := by
  have HN := Lib.hid (fun w => nat_any 32 (by decide) 4294967295 (by decide) w)
  unfold lowE at hr
  dsimp only at hr
  have b1 := Lib.hid ((Blk.new w 30 #[.int .i64 l, .int .i64 h]).alloc (.cells zE 30))
  have b2 := Lib.hid (new2 w (.cells #[.int .i64 l, .int .i64 h] 30) 30 zE)
  have H2 := Lib.hid (box2 w (.cells #[.int .i64 l, .int .i64 h] 30) (.cells zE 30))
  by_cases hq : l / 4294967296 = h / 4294967296
  · rw [if_pos hq] at hr
    obtain ⟨h1, h2⟩ := e_eq hr
    rw [← and32] at h1 h2
    have H1 := Lib.hid h1
    have H2' := Lib.hid h2
    have hq' : (l / 4294967296 != h / 4294967296) = false := by simpa using hq
    clear hr h1 h2 hq
    go_enter Tryz.func36, Tryz.ntmps36
    go_wp2_with fail
    refine (HN.out _).mono ?_
    rintro e w1 ⟨rfl, hB⟩
    obtain ⟨a0, a1, a2, a3, a4⟩ := cells2 (b1.out.up hB)
    have HR := Lib.hid (b2.out.up hB)
    have HB := Lib.hid (nx H2.out hB)
    obtain ⟨c0, c1, c2, c3, c4⟩ := cells2 HR.out
    clear hB b1 b2 H2
    go_wp2_with fail
    rw [H1.out, H2'.out]
    exact bodyPost_ret (v := .agg #[.int .i64 p, .int .i64 q]) (results_cell_row Tryz.results36 _ _ (w.heap.size + 1) 30 #[.int .i64 p, .int .i64 q] (0, 0) _ rfl ((set2 HR.out _ _).alloc _) Tryz.underlying30 rfl (by kernel_rfl)) rfl ⟨rfl, nx (Below.set2 HB.out (by omega) _ _) (below_box' _ _)⟩
  · rw [if_neg hq] at hr
    obtain ⟨rfl, rfl⟩ := e_eq hr
    have hq' : (l / 4294967296 != h / 4294967296) = true := by simpa using hq
    clear hr hq
    go_enter Tryz.func36, Tryz.ntmps36
    go_wp2_with fail
    refine (HN.out _).mono ?_
    rintro e w1 ⟨rfl, hB⟩
    obtain ⟨a0, a1, a2, a3, a4⟩ := cells2 (b1.out.up hB)
    have HR := Lib.hid (b2.out.up hB)
    have HB := Lib.hid (nx H2.out hB)
    obtain ⟨c0, c1, c2, c3, c4⟩ := cells2 HR.out
    clear hB b1 b2 H2
    go_wp2_with fail
    exact bodyPost_ret (v := .agg #[.int .i64 0, .int .i64 4294967295]) (results_cell_row Tryz.results36 _ _ (w.heap.size + 1) 30 #[.int .i64 0, .int .i64 4294967295] (0, 0) _ rfl ((set2 HR.out _ _).alloc _) Tryz.underlying30 rfl (by kernel_rfl)) rfl ⟨rfl, nx (Below.set2 HB.out (by omega) _ _) (below_box' _ _)⟩
end Spc
end Go.Proofs.YtjhgjplhhhgfcaaGreat
