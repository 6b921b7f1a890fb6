/- Contracts of package span: wide. -/
import Derived.Test.YtjhgjplhhhgfcaaGreatSpQ
namespace Go.Proofs.YtjhgjplhhhgfcaaGreat
open Go.ChangeShapes Go.WideShapes Go.ChangeAt Go.RowKit
open Spn
namespace Spc
set_option linter.unusedVariables false
set_option maxRecDepth 100000
theorem counts_rng (b low : E) (h : Int) (hl : low.ok) (h1 : 1 ≤ h) (h2 : h ≤ 64) : 0 ≤ (countsX b low h).lo ∧ (countsX b low h).lo ≤ (countsX b low h).hi ∧ (countsX b low h).hi ≤ h - 1 := by
  unfold countsX
  split
  · have h3 := Int.emod_nonneg b.lo (show h ≠ 0 by omega)
    have h4 := Int.emod_lt_of_pos b.lo (show 0 < h by omega)
    exact ⟨h3, Int.le_refl _, by show b.lo % h ≤ h - 1; omega⟩
  · split
    · rename_i hw
      unfold withinB at hw
      simp only [Bool.and_eq_true, decide_eq_true_eq] at hw
      exact ⟨hw.1, hl.1, hw.2⟩
    · exact ⟨Int.le_refl _, by show (0 : Int) ≤ h - 1; omega, Int.le_refl _⟩
theorem ok_small {l h : Int} (h0 : 0 ≤ l) (h1 : l ≤ h) (h2 : h ≤ 9223372036854775807) : (⟨l, h⟩ : E).ok := ⟨h1, by unfold LEAST; show _ ≤ l; omega, h2⟩
/-- the operands are sane, and a shift's counts are counts -/
theorem oper_ok {op z o : Int} {a b c p q : E} (h : operX op a b c z = (o, p, q)) (ha : a.ok) (hb : b.ok) (h0 : 0 ≤ c.lo) (h1 : c.lo ≤ c.hi) (h2 : c.hi ≤ 63) (hz : 0 ≤ z ∧ z ≤ 4294967296) :
    p.ok ∧ q.ok ∧ ((o = 11 ∨ o = 12 ∨ o = 13) → 0 ≤ q.lo ∧ q.hi ≤ 63) := by
  unfold operX at h
  split at h
  · injection h with e1 e2
    injection e2 with e2 e3
    subst e1 e2 e3
    exact ⟨ha, ⟨h1, by unfold LEAST; omega, by unfold TOP; omega⟩, fun _ => ⟨h0, h2⟩⟩
  · split at h
    · injection h with e1 e2
      injection e2 with e2 e3
      subst e1 e2 e3
      exact ⟨⟨Int.le_refl _, by unfold LEAST; show _ ≤ z; omega, by unfold TOP; show z ≤ _; omega⟩, ha, fun h => by omega⟩
    · injection h with e1 e2
      injection e2 with e2 e3
      subst e1 e2 e3
      exact ⟨ha, hb, fun h => by omega⟩
theorem zbox {w w' : World} {cs : Array Value} {t : TypeId} (hb : Below (w.alloc (.cells cs t)).heap.size (w.alloc (.cells cs t)) w') : Blk w' w.heap.size t cs := (Blk.new w t cs).up hb
theorem jw_ge {w0 w : World} {al ah bl bh : Int} (h : JW w0 al ah bl bh w) : w0.heap.size + 2 < w.heap.size := by
  obtain ⟨_, _, ⟨_, _, h3⟩, _⟩ := h
  exact h3.lt
theorem jw_far {w0 w : World} {al ah bl bh : Int} {g : Nat} (h : JW w0 al ah bl bh w) (hg : w0.heap.size + 2 < g) (a b : Value) : JW w0 al ah bl bh ((w.setCell ⟨g, 0, none⟩ a).setCell ⟨g, 1, none⟩ b) := by
  obtain ⟨h1, h2, ⟨_, _, h3⟩, h4⟩ := h
  exact ⟨far2 h1 (by omega) _ _, far2 h2 (by omega) _ _, ⟨_, _, far2 h3 (by omega) _ _⟩, Below.set2 h4 (by omega) _ _⟩
set_option maxHeartbeats 8000000 in
theorem wide_any (op al ah bl bh l h : Int) (ha : (⟨al, ah⟩ : E).ok) (hb : (⟨bl, bh⟩ : E).ok) (hr : wideX op ⟨al, ah⟩ ⟨bl, bh⟩ = ⟨l, h⟩) (w : World) :
    Calls Tryz.prog 16 #[.int .i64 op, .agg #[.int .i64 al, .int .i64 ah], .agg #[.int .i64 bl, .int .i64 bh]] w (RetE w l h) := by
  have H0 := Lib.hid ((JW.start w al ah bl bh (.int .i64 0) (.int .i64 0)).drew)
  obtain ⟨c0, c1, c2⟩ := counts_rng ⟨bl, bh⟩ ⟨bl, bh⟩ 64 hb (by decide) (by decide)
  unfold wideX at hr
  rcases ec : countsX ⟨bl, bh⟩ ⟨bl, bh⟩ 64 with ⟨cl, ch⟩
  rw [ec] at hr c0 c1 c2
  rcases eo : operX op ⟨al, ah⟩ ⟨bl, bh⟩ ⟨cl, ch⟩ 0 with ⟨o, ⟨pl, ph⟩, ⟨ql, qh⟩⟩
  rw [eo] at hr
  replace hr : (answerX o ⟨pl, ph⟩ ⟨ql, qh⟩).getD allE = ⟨l, h⟩ := hr
  obtain ⟨k1, k2, k3⟩ := oper_ok eo ha hb c0 c1 (by show ch ≤ 63; exact c2) (by decide)
  have HC := Lib.hid (fun w => counts_63 bl bh bl bh cl ch ec w)
  have HO := Lib.hid (fun w => oper_any op al ah bl bh cl ch 0 o pl ph ql qh eo w)
  have HA := Lib.hid (fun w => answer_any o pl ph ql qh k1 k2 k3 w)
  have HAL := Lib.hid (fun w => all_any w)
  clear ha hb c0 c1 c2 ec eo k1 k2 k3
  generalize answerX o ⟨pl, ph⟩ ⟨ql, qh⟩ = ans at *
  have HRR := Lib.hid hr
  clear hr
  go_enter Tryz.func16, Tryz.ntmps16
  go_wp2_with fail
  go_region_held3 (fun w' => w'.cell? ⟨w.heap.size, 0, none⟩ = some (.int .i64 al) ∧ w'.cell? ⟨w.heap.size, 1, none⟩ = some (.int .i64 ah) ∧ w'.cell? ⟨w.heap.size + 1, 0, none⟩ = some (.int .i64 bl) ∧ w'.cell? ⟨w.heap.size + 1, 1, none⟩ = some (.int .i64 bh) ∧ JW w al ah bl bh w')
    (first | with_reducible exact jS H0.out | with_reducible exact jS HWa.out | with_reducible exact jS HWb.out | with_reducible exact jS HWc.out | with_reducible exact jS (H0.out.up (below_box' _ _)) | with_reducible exact jS (HWa.out.up (below_box' _ _)) | with_reducible exact jS (HWb.out.up (below_box' _ _)) | with_reducible exact jS (HWc.out.up (below_box' _ _)) | exact jS (jw_far HWc.out HG.out _ _) | exact jS ((JW.start w al ah bl bh _ _).up (below_box' _ _)).drew | fail)
    (first | (go_at_call 42; refine (HC.out _).mono ?_; rintro e w1 ⟨rfl, hB⟩; have HN := Lib.hid (HN.out.up hB); have HWa := Lib.hid (H0.out.up hB); clear hB)
           | (go_at_call 42; refine (HC.out _).mono ?_; rintro e w1 ⟨rfl, hB⟩; have HWa := Lib.hid (H0.out.up hB); clear hB)
           | (go_at_call 42; refine (HC.out _).mono ?_; rintro e w1 ⟨rfl, hB⟩; have HN := Lib.hid (zbox hB); have HG := Lib.hid (jw_ge H0.out); have HWa := Lib.hid ((H0.out.up (below_box' _ _)).up hB); clear hB)
           | (go_at_call 42; refine (HC.out _).mono ?_; rintro e w1 ⟨rfl, hB⟩; have HN := Lib.hid (show Blk w1 (w.heap.size + 1 + 1 + 1) _ _ from (new4 w _ _ _ _ _).drew.up hB); have HG := Lib.hid (show w.heap.size + 2 < w.heap.size + 1 + 1 + 1 by omega); have HWa := Lib.hid (((JW.start w al ah bl bh _ _).up (below_box' _ _)).drew.up hB); clear hB)
           | (go_at_call 41; refine (HO.out _).mono ?_; rintro e w2 ⟨rfl, hB⟩; have HN := Lib.hid (HN.out.up hB); have HWb := Lib.hid (HWa.out.up hB); clear hB)
           | (go_at_call 41; refine (HO.out _).mono ?_; rintro e w2 ⟨rfl, hB⟩; have HWb := Lib.hid (HWa.out.up hB); clear hB)
           | (go_at_call 41; refine (HO.out _).mono ?_; rintro e w2 ⟨rfl, hB⟩; have HN := Lib.hid (zbox hB); have HG := Lib.hid (jw_ge HWa.out); have HWb := Lib.hid ((HWa.out.up (below_box' _ _)).up hB); clear hB)
           | (go_at_call 44; refine (HA.out _).mono ?_; rintro e w3 ⟨rl, rh, rfl, hv, hB⟩; have HN := Lib.hid (HN.out.up hB); obtain ⟨n0, n1, n2, n3, n4⟩ := cells2 HN.out; have HWc := Lib.hid (HWb.out.up hB); have HV := Lib.hid hv; clear hB hv)
           | (go_at_call 44; refine (HA.out _).mono ?_; rintro e w3 ⟨rl, rh, rfl, hv, hB⟩; have HWc := Lib.hid (HWb.out.up hB); have HV := Lib.hid hv; clear hB hv)
           | (go_at_call 44; refine (HA.out _).mono ?_; rintro e w3 ⟨rl, rh, rfl, hv, hB⟩; have HN := Lib.hid (zbox hB); have HG := Lib.hid (jw_ge HWb.out); obtain ⟨n0, n1, n2, n3, n4⟩ := cells2 HN.out; have HWc := Lib.hid ((HWb.out.up (below_box' _ _)).up hB); have HV := Lib.hid hv; clear hB hv))
  all_goals
    rename_i hh
    obtain ⟨-, -, -, -, hJ⟩ := hh
    first
      | (have hT := Blk.new w3 30 #[.int .i64 rl, .int .i64 rh]
         have hGG := jw_ge HWc.out
         generalize (w3.alloc (.cells #[.int .i64 rl, .int .i64 rh] 30)) = wz at hJ hT ⊢
         generalize w3.heap.size = gz at hT hGG ⊢)
      | (have hT := set2 HN.out (.int .i64 rl) (.int .i64 rh)
         have hGG := HG.out
         generalize ((w3.setCell ⟨w2.heap.size, 0, none⟩ (.int .i64 rl)).setCell ⟨w2.heap.size, 1, none⟩ (.int .i64 rh)) = wz at hJ hT ⊢
         generalize w2.heap.size = gz at hT hGG ⊢
         clear n0 n1 n2 n3 n4)
      | (have hT := set2 HN.out (.int .i64 rl) (.int .i64 rh)
         have hGG := HG.out
         generalize ((w3.setCell ⟨w1.heap.size, 0, none⟩ (.int .i64 rl)).setCell ⟨w1.heap.size, 1, none⟩ (.int .i64 rh)) = wz at hJ hT ⊢
         generalize w1.heap.size = gz at hT hGG ⊢
         clear n0 n1 n2 n3 n4)
      | (have hT := set2 HN.out (.int .i64 rl) (.int .i64 rh)
         have hGG := HG.out
         generalize ((w3.setCell ⟨w.heap.size + 1 + 1 + 1, 0, none⟩ (.int .i64 rl)).setCell ⟨w.heap.size + 1 + 1 + 1, 1, none⟩ (.int .i64 rh)) = wz at hJ hT ⊢
         generalize w.heap.size + 1 + 1 + 1 = gz at hT hGG ⊢
         clear n0 n1 n2 n3 n4)
    have HJ := Lib.hid hJ
    have HT := Lib.hid hT
    clear hJ hT HC HO HA H0
    obtain ⟨d0, d1, d2, d3, d4⟩ := cells2 HT.out
    obtain ⟨⟨x, y, c0, c1⟩, c2, c3, c4⟩ := jR HJ.out
    cases ans with
    | none =>
      obtain ⟨rfl, rfl⟩ := e_eq (show (⟨-9223372036854775808, 9223372036854775807⟩ : E) = _ from HRR.out)
      clear HV HRR d0 d1 d2 d3 d4
      go_wp2_with fail
      refine (HAL.out _).mono ?_
      rintro e w5 ⟨rfl, hB⟩
      have HJ5 := Lib.hid (HJ.out.up hB)
      clear c0 c1 c2 c3 c4 hB
      obtain ⟨⟨x, y, c0, c1⟩, c2, c3, c4⟩ := jR HJ5.out
      go_wp2_with fail
      exact bodyPost_ret (v := .agg #[.int .i64 _, .int .i64 _]) (results_cell_row Tryz.results16 _ _ (w.heap.size + 2) 30 #[.int .i64 _, .int .i64 _] (0, 0) _ rfl (HJ5.out.res _ _) Tryz.underlying30 rfl (by kernel_rfl)) rfl ⟨rfl, (HJ5.out.set _ _).2.2.2⟩
    | some u =>
      obtain rfl : u = ⟨rl, rh⟩ := HV.out u rfl
      obtain ⟨rfl, rfl⟩ := e_eq (show (⟨rl, rh⟩ : E) = _ from HRR.out)
      clear HV HRR
      go_wp2_with fail
      exact bodyPost_ret (v := .agg #[.int .i64 _, .int .i64 _]) (results_cell_row Tryz.results16 _ _ (w.heap.size + 2) 30 #[.int .i64 _, .int .i64 _] (0, 0) _ rfl (HJ.out.res _ _) Tryz.underlying30 rfl (by kernel_rfl)) rfl ⟨rfl, (HJ.out.set _ _).2.2.2⟩
end Spc
end Go.Proofs.YtjhgjplhhhgfcaaGreat
