/- Contracts of package span: the joins that draw their order, or call. -/
import Derived.Test.YtjhgjplhhhgfcaaGreatSpN
namespace Go.Proofs.YtjhgjplhhhgfcaaGreat
open Go.ChangeShapes Go.WideShapes Go.ChangeAt Go.RowKit
open Spn
namespace Spc
set_option linter.unusedVariables false
set_option maxRecDepth 100000
/-- the three boxes of a join -/
def JW (w0 : World) (al ah bl bh : Int) (w : World) : Prop :=
  Blk w w0.heap.size 30 #[.int .i64 al, .int .i64 ah] ∧ Blk w (w0.heap.size + 1) 30 #[.int .i64 bl, .int .i64 bh] ∧ (∃ a b, Blk w (w0.heap.size + 2) 30 #[a, b]) ∧ Below w0.heap.size w0 w
theorem JW.start (w : World) (al ah bl bh : Int) (x y : Value) : JW w al ah bl bh (((w.alloc (.cells #[.int .i64 al, .int .i64 ah] 30)).alloc (.cells #[.int .i64 bl, .int .i64 bh] 30)).alloc (.cells #[x, y] 30)) :=
  ⟨((Blk.new w _ _).alloc _).alloc _, (new2 w _ _ _).alloc _, ⟨x, y, new3 w _ _ _ _⟩, box3 w _ _ _⟩
theorem JW.drew {w0 w : World} {al ah bl bh : Int} (h : JW w0 al ah bl bh w) : JW w0 al ah bl bh w.drew := by
  obtain ⟨h1, h2, ⟨_, _, h3⟩, h4⟩ := h
  exact ⟨h1.drew, h2.drew, ⟨_, _, h3.drew⟩, h4.drew⟩
theorem JW.up {w0 w w' : World} {al ah bl bh : Int} (h : JW w0 al ah bl bh w) (hb : Below w.heap.size w w') : JW w0 al ah bl bh w' := by
  obtain ⟨h1, h2, ⟨_, _, h3⟩, h4⟩ := h
  exact ⟨h1.up hb, h2.up hb, ⟨_, _, h3.up hb⟩, nx h4 hb⟩
theorem JW.set {w0 w : World} {al ah bl bh : Int} (h : JW w0 al ah bl bh w) (a b : Value) : JW w0 al ah bl bh ((w.setCell ⟨w0.heap.size + 2, 0, none⟩ a).setCell ⟨w0.heap.size + 2, 1, none⟩ b) := by
  obtain ⟨h1, h2, ⟨_, _, h3⟩, h4⟩ := h
  exact ⟨far2 h1 (by omega) _ _, far2 h2 (by omega) _ _, ⟨_, _, set2 h3 _ _⟩, Below.set2 h4 (by omega) _ _⟩
theorem JW.res {w0 w : World} {al ah bl bh : Int} (h : JW w0 al ah bl bh w) (a b : Value) : Blk ((w.setCell ⟨w0.heap.size + 2, 0, none⟩ a).setCell ⟨w0.heap.size + 2, 1, none⟩ b) (w0.heap.size + 2) 30 #[a, b] := by
  obtain ⟨h1, h2, ⟨_, _, h3⟩, h4⟩ := h
  exact set2 h3 _ _
theorem jS {w w' : World} {al ah bl bh : Int} (h : JW w al ah bl bh w') : w'.cell? ⟨w.heap.size, 0, none⟩ = some (.int .i64 al) ∧ w'.cell? ⟨w.heap.size, 1, none⟩ = some (.int .i64 ah) ∧ w'.cell? ⟨w.heap.size + 1, 0, none⟩ = some (.int .i64 bl) ∧ w'.cell? ⟨w.heap.size + 1, 1, none⟩ = some (.int .i64 bh) ∧ JW w al ah bl bh w' := by
  obtain ⟨a0, a1, -⟩ := cells2 h.1
  obtain ⟨b0, b1, -⟩ := cells2 h.2.1
  exact ⟨a0, a1, b0, b1, h⟩
/-- the result's box, as the store into it wants it -/
theorem jR {w w' : World} {al ah bl bh : Int} (h : JW w al ah bl bh w') : (∃ x y, w'.cell? ⟨w.heap.size + 1 + 1, 0, none⟩ = some x ∧ w'.cell? ⟨w.heap.size + 1 + 1, 1, none⟩ = some y) ∧ w'.frozen? ⟨w.heap.size + 1 + 1, 0, none⟩ = false ∧ w'.frozen? ⟨w.heap.size + 1 + 1, 1, none⟩ = false ∧ w.heap.size + 1 + 1 < w'.heap.size := by
  obtain ⟨_, _, ⟨x, y, h3⟩, _⟩ := h
  obtain ⟨c0, c1, c2, c3, c4⟩ := cells2 h3
  exact ⟨⟨x, y, c0, c1⟩, c2, c3, c4⟩
set_option maxHeartbeats 4000000 in
theorem j_d3 (al ah bl bh : Int) (w : World) : Calls Tryz.prog 124 #[.agg #[.int .i64 al, .int .i64 ah], .agg #[.int .i64 bl, .int .i64 bh]] w (RetJ w (if ah < bl then some ⟨al, ah⟩ else none)) := by
  have H0 := Lib.hid (fun x y => (JW.start w al ah bl bh x y).drew)
  by_cases hc : ah < bl
  · rw [if_pos hc]
    go_enter Tryz.func124, Tryz.ntmps124
    go_wp2_with fail
    go_region_held3 (fun w' => w'.cell? ⟨w.heap.size, 0, none⟩ = some (.int .i64 al) ∧ w'.cell? ⟨w.heap.size, 1, none⟩ = some (.int .i64 ah) ∧ w'.cell? ⟨w.heap.size + 1, 0, none⟩ = some (.int .i64 bl) ∧ w'.cell? ⟨w.heap.size + 1, 1, none⟩ = some (.int .i64 bh) ∧ JW w al ah bl bh w') (with_reducible exact jS (H0.out _ _)) (first | fail)
    rename_i hh
    clear hh
    go_wp2_with fail
    refine bodyPost_ret (v := .tuple #[.agg #[.int .i64 _, .int .i64 _], .bool _]) (results_cell_tmp Tryz.results124 _ _ (w.heap.size + 2) 30 #[.int .i64 _, .int .i64 _] (0, 0) _ _ rfl rfl ((new3 w _ _ _ _).drew) Tryz.underlying30 rfl (by kernel_rfl)) rfl ?_
    exact retJ_some ((box3 w _ _ _).drew) rfl rfl
  · rw [if_neg hc]
    go_enter Tryz.func124, Tryz.ntmps124
    go_wp2_with fail
    go_region_held3 (fun w' => w'.cell? ⟨w.heap.size, 0, none⟩ = some (.int .i64 al) ∧ w'.cell? ⟨w.heap.size, 1, none⟩ = some (.int .i64 ah) ∧ w'.cell? ⟨w.heap.size + 1, 0, none⟩ = some (.int .i64 bl) ∧ w'.cell? ⟨w.heap.size + 1, 1, none⟩ = some (.int .i64 bh) ∧ JW w al ah bl bh w') (with_reducible exact jS (H0.out _ _)) (first | fail)
    rename_i hh
    clear hh
    go_wp2_with fail
    refine bodyPost_ret (v := .tuple #[.agg #[.int .i64 _, .int .i64 _], .bool _]) (results_cell_tmp Tryz.results124 _ _ (w.heap.size + 2) 30 #[.int .i64 _, .int .i64 _] (0, 0) _ _ rfl rfl ((new3 w _ _ _ _).drew) Tryz.underlying30 rfl (by kernel_rfl)) rfl ?_
    exact retJ_at (o := none) ((box3 w _ _ _).drew) (decide_eq_false (by omega)) (by intro u e; cases e)
theorem or_i64 (x y : Int) (hx : 0 ≤ x ∧ x ≤ 9223372036854775807) (hy : 0 ≤ y ∧ y ≤ 9223372036854775807) : bits BinOp.or IntKind.i64 x y = ((x.toNat ||| y.toNat : Nat) : Int) ∧ x.toNat ||| y.toNat < 9223372036854775808 := by
  have hlt : x.toNat ||| y.toNat < 2 ^ 63 := Nat.or_lt_two_pow (by omega) (by omega)
  rw [show (2 : Nat) ^ 63 = 9223372036854775808 from rfl] at hlt
  refine ⟨?_, hlt⟩
  show IntKind.i64.wrap (((BitVec.ofInt 64 x ||| BitVec.ofInt 64 y).toNat : Nat) : Int) = _
  have ex : (BitVec.ofInt 64 x).toNat = x.toNat := by rw [BitVec.toNat_ofInt]; omega
  have ey : (BitVec.ofInt 64 y).toNat = y.toNat := by rw [BitVec.toNat_ofInt]; omega
  rw [BitVec.toNat_or, ex, ey]
  exact IntWalk.i64_in _ (by omega)
theorem fill_or (x y : Int) (hx : 0 ≤ x ∧ x ≤ 9223372036854775807) (hy : 0 ≤ y ∧ y ≤ 9223372036854775807) (w : World) : Calls Tryz.prog 133 #[.int .i64 (bits BinOp.or IntKind.i64 x y)] w fun e w' => e = .returned (.int .i64 (fillX x y)) ∧ Below w.heap.size w w' := by
  obtain ⟨h1, h2⟩ := or_i64 x y hx hy
  rw [h1]
  have := filled_any ((x.toNat ||| y.toNat : Nat) : Int) (by omega) (by omega) w
  unfold fill1 at this
  rw [Int.toNat_natCast] at this
  exact this
set_option maxHeartbeats 2000000 in
theorem j_b9 (al ah bl bh : Int) (ha : 0 ≤ ah ∧ ah ≤ 9223372036854775807) (hb : 0 ≤ bh ∧ bh ≤ 9223372036854775807) (w : World) : Calls Tryz.prog 137 #[.agg #[.int .i64 al, .int .i64 ah], .agg #[.int .i64 bl, .int .i64 bh]] w (RetJ w (some ⟨0, fillX ah bh⟩)) := by
  have HF := Lib.hid (fun w => fill_or ah bh ha hb w)
  have H0 := Lib.hid (JW.start w al ah bl bh (.int .i64 0) (.int .i64 0))
  clear ha hb
  go_enter Tryz.func137, Tryz.ntmps137
  go_wp2_with fail
  refine (HF.out _).mono ?_
  rintro e w1 ⟨rfl, hB⟩
  have HW := Lib.hid (H0.out.up hB)
  obtain ⟨⟨x, y, c0, c1⟩, c2, c3, c4⟩ := jR HW.out
  clear hB H0
  go_wp2_with fail
  refine bodyPost_ret (v := .tuple #[.agg #[.int .i64 _, .int .i64 _], .bool _]) (results_cell_tmp Tryz.results137 _ _ (w.heap.size + 2) 30 #[.int .i64 _, .int .i64 _] (0, 0) _ _ rfl rfl (HW.out.res _ _) Tryz.underlying30 rfl (by kernel_rfl)) rfl ?_
  exact retJ_some (HW.out.set _ _).2.2.2 rfl rfl
set_option maxHeartbeats 4000000 in
theorem j_b5 (al ah bl bh : Int) (ha : 0 ≤ ah ∧ ah ≤ 9223372036854775807) (hb : 0 ≤ bh ∧ bh ≤ 9223372036854775807) (w : World) : Calls Tryz.prog 132 #[.agg #[.int .i64 al, .int .i64 ah], .agg #[.int .i64 bl, .int .i64 bh]] w (RetJ w (some ⟨max al bl, fillX ah bh⟩)) := by
  have HF := Lib.hid (fun w => fill_or ah bh ha hb w)
  have H0 := Lib.hid (fun x y => (JW.start w al ah bl bh x y).drew)
  clear ha hb
  rcases Int.lt_or_le al bl with hc | hc
  all_goals
    go_enter Tryz.func132, Tryz.ntmps132
    go_wp2_with fail
    go_region_held3 (fun w' => w'.cell? ⟨w.heap.size, 0, none⟩ = some (.int .i64 al) ∧ w'.cell? ⟨w.heap.size, 1, none⟩ = some (.int .i64 ah) ∧ w'.cell? ⟨w.heap.size + 1, 0, none⟩ = some (.int .i64 bl) ∧ w'.cell? ⟨w.heap.size + 1, 1, none⟩ = some (.int .i64 bh) ∧ JW w al ah bl bh w') (first | with_reducible exact jS (H0.out _ _) | with_reducible exact jS HW.out | with_reducible exact jS (HW.out.set _ _)) (first | (go_at_call 133; refine (HF.out _).mono ?_; rintro e w1 ⟨rfl, hB⟩; have HW := Lib.hid ((H0.out _ _).up hB); obtain ⟨⟨x, y, c0, c1⟩, c2, c3, c4⟩ := jR HW.out; clear hB))
  all_goals
    rename_i hh
    clear hh c0 c1 c2 c3 c4
    go_wp2_with fail
    refine bodyPost_ret (v := .tuple #[.agg #[.int .i64 _, .int .i64 _], .bool _]) (results_cell_tmp Tryz.results132 _ _ (w.heap.size + 2) 30 #[.int .i64 _, .int .i64 _] (0, 0) _ _ rfl rfl (HW.out.res _ _) Tryz.underlying30 rfl (by kernel_rfl)) rfl ?_
    exact retJ_some (HW.out.set _ _).2.2.2 (by omega) rfl
set_option maxHeartbeats 2000000 in
theorem j_sh (al ah bl bh : Int) (h0 : 1 ≤ bl) (h1 : bl ≤ 63) (w : World) : Calls Tryz.prog 141 #[.agg #[.int .i64 al, .int .i64 ah], .agg #[.int .i64 bl, .int .i64 bh]] w (RetJ w (some ⟨0, 2 ^ (64 - bl).toNat - 1⟩)) := by
  have HF := Lib.hid (fun w => natC (64 - bl) (2 ^ (64 - bl).toNat - 1) (64 - bl).toNat (by omega) (by omega) rfl w)
  have H0 := Lib.hid (JW.start w al ah bl bh (.int .i64 0) (.int .i64 0))
  generalize (2 : Int) ^ (64 - bl).toNat - 1 = m at *
  go_enter Tryz.func141, Tryz.ntmps141
  go_wp2_with fail
  refine (HF.out _).mono ?_
  rintro e w1 ⟨rfl, hB⟩
  have HW := Lib.hid (H0.out.up hB)
  obtain ⟨⟨x, y, c0, c1⟩, c2, c3, c4⟩ := jR HW.out
  clear hB H0
  go_wp2_with fail
  refine bodyPost_ret (v := .tuple #[.agg #[.int .i64 _, .int .i64 _], .bool _]) (results_cell_tmp Tryz.results141 _ _ (w.heap.size + 2) 30 #[.int .i64 _, .int .i64 _] (0, 0) _ _ rfl rfl (HW.out.res _ _) Tryz.underlying30 rfl (by kernel_rfl)) rfl ?_
  exact retJ_some (HW.out.set _ _).2.2.2 rfl rfl
theorem JW.keep {w0 w w' : World} {al ah bl bh : Int} (h : JW w0 al ah bl bh w) (hb : Below w.heap.size w w') : JW w0 al ah bl bh w' := h.up hb
set_option maxHeartbeats 4000000 in
theorem j_alike (al ah bl bh : Int) (ha : (⟨al, ah⟩ : E).ok) (hb : (⟨bl, bh⟩ : E).ok) (h0 : 0 ≤ bl) (h1 : bh ≤ 63) (w : World) : Calls Tryz.prog 138 #[.agg #[.int .i64 al, .int .i64 ah], .agg #[.int .i64 bl, .int .i64 bh]] w (RetJ w (alikeX ⟨al, ah⟩ ⟨bl, bh⟩)) := by
  unfold alikeX
  dsimp only
  have HG := Lib.hid (fun w => single_any bl bh w)
  have H0 := Lib.hid (JW.start w al ah bl bh (.int .i64 0) (.int .i64 0))
  by_cases hs : bl = bh
  · rw [if_pos hs]
    subst hs
    rw [show (bl == bl) = true from beq_self_eq_true bl] at HG
    have HC := Lib.hid (fun (g : Nat) (W : World) (hb' : Blk W g 118 #[.func (.func 139) #[] #[]]) => corner_any 139 leftX al ah bl bl en_left.1
      (fun a b W' ha' hb' => en_left.2.2 a b W' (or_at ha' (ok_lo ha) (ok_hi ha)) (or_at hb' (ok_lo hb) (ok_hi hb)) (by rcases hb' with rfl | rfl <;> omega)) (fun a b v ha' _ e => en_left.2.1 a b v (or_at ha' (ok_lo ha) (ok_hi ha)) e) g W hb')
    clear ha hb h0 h1
    generalize cornX leftX ⟨al, ah⟩ ⟨bl, bl⟩ = o at *
    go_enter Tryz.func138, Tryz.ntmps138
    go_wp2_with fail
    refine (HG.out _).mono ?_
    rintro e w1 ⟨rfl, hB⟩
    have HW := Lib.hid (H0.out.up hB)
    have HWd := Lib.hid (HW.out.drew)
    clear hB H0
    go_wp2_with fail
    go_region_held3 (fun w' => w'.cell? ⟨w.heap.size, 0, none⟩ = some (.int .i64 al) ∧ w'.cell? ⟨w.heap.size, 1, none⟩ = some (.int .i64 ah) ∧ w'.cell? ⟨w.heap.size + 1, 0, none⟩ = some (.int .i64 bl) ∧ w'.cell? ⟨w.heap.size + 1, 1, none⟩ = some (.int .i64 bl) ∧ JW w al ah bl bl w') (first | with_reducible exact jS HWd.out | with_reducible exact jS HW2.out | with_reducible exact jS HW3.out | with_reducible exact jS (HW3.out.set _ _)) (first | (go_at_call 85; refine (corners_any _ _).mono ?_; rintro e w2 ⟨rfl, hb2, hB⟩; have HW2 := Lib.hid (HWd.out.up hB); have HC2 := Lib.hid (HC.out _ w2 hb2); clear hB hb2) | (go_at_call 117; refine HC2.out.mono ?_; rintro e w3 ⟨rl, rh, rfl, hv, hB⟩; have HW3 := Lib.hid (HW2.out.up hB); have HV := Lib.hid hv; obtain ⟨⟨x, y, c0, c1⟩, c2, c3, c4⟩ := jR HW3.out; clear hB hv))
    rename_i hh
    clear hh c0 c1 c2 c3 c4
    go_wp2_with fail
    refine bodyPost_ret (v := .tuple #[.agg #[.int .i64 _, .int .i64 _], .bool _]) (results_cell_tmp Tryz.results138 _ _ (w.heap.size + 2) 30 #[.int .i64 _, .int .i64 _] (0, 0) _ _ rfl rfl (HW3.out.res _ _) Tryz.underlying30 rfl (by kernel_rfl)) rfl ?_
    exact retJ_at (HW3.out.set _ _).2.2.2 rfl HV.out
  · rw [if_neg hs]
    have hs2 : (bl == bh) = false := by simpa using hs
    rw [hs2] at HG
    clear hs hs2
    go_enter Tryz.func138, Tryz.ntmps138
    go_wp2_with fail
    refine (HG.out _).mono ?_
    rintro e w1 ⟨rfl, hB⟩
    have HW := Lib.hid (H0.out.up hB)
    obtain ⟨⟨x, y, c0, c1⟩, c2, c3, c4⟩ := jR HW.out
    clear hB H0
    go_wp2_with fail
    refine bodyPost_ret (v := .tuple #[.agg #[.int .i64 _, .int .i64 _], .bool _]) (results_cell_tmp Tryz.results138 _ _ (w.heap.size + 2) 30 #[.int .i64 _, .int .i64 _] (0, 0) _ _ rfl rfl (HW.out.res _ _) Tryz.underlying30 rfl (by kernel_rfl)) rfl ?_
    exact retJ_none (HW.out.set _ _).2.2.2
end Spc
end Go.Proofs.YtjhgjplhhhgfcaaGreat
