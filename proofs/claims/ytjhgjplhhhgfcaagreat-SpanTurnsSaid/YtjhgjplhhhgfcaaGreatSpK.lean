/- Contracts of package span: filled; the rows' small joins. -/
import Derived.Test.YtjhgjplhhhgfcaaGreatSpJ
namespace Go.Proofs.YtjhgjplhhhgfcaaGreat
open Go.ChangeShapes Go.WideShapes Go.ChangeAt Go.RowKit
open Spn
namespace Spc
set_option linter.unusedVariables false
set_option maxRecDepth 100000
/-- what a join hands back -/
def RetJ (w : World) (o : Option E) (e : Ending) (w' : World) : Prop := ∃ l h, e = .returned (.tuple #[.agg #[.int .i64 l, .int .i64 h], .bool o.isSome]) ∧ (∀ u, o = some u → u = ⟨l, h⟩) ∧ Below w.heap.size w w'
theorem retJ_at {w w' : World} {o : Option E} {l h : Int} {b : Bool} (hB : Below w.heap.size w w') (hb : b = o.isSome) (hv : ∀ u, o = some u → u = ⟨l, h⟩) : RetJ w o (.returned (.tuple #[.agg #[.int .i64 l, .int .i64 h], .bool b])) w' := ⟨l, h, by rw [hb], hv, hB⟩
theorem retJ_some {w w' : World} {l h l' h' : Int} (hB : Below w.heap.size w w') (h1 : l = l') (h2 : h = h') : RetJ w (some ⟨l', h'⟩) (.returned (.tuple #[.agg #[.int .i64 l, .int .i64 h], .bool true])) w' := by subst h1 h2; exact ⟨l, h, rfl, fun u e => by injection e with e; exact e.symm, hB⟩
theorem retJ_none {w w' : World} {l h : Int} (hB : Below w.heap.size w w') : RetJ w none (.returned (.tuple #[.agg #[.int .i64 l, .int .i64 h], .bool false])) w' := ⟨l, h, rfl, fun u e => (by cases e), hB⟩
theorem len_lt (x : Nat) (h : x < 9223372036854775808) : Lib.bitLen x ≤ 63 := Lib.bitLen_le x 63 (by decide) h
def fill1 (v : Int) : Int := 2 ^ lenN v.toNat - 1
set_option maxHeartbeats 1000000 in
theorem filled_any (v : Int) (h0 : 0 ≤ v) (h1 : v ≤ 9223372036854775807) (w : World) : Calls Tryz.prog 133 #[.int .i64 v] w fun e w' => e = .returned (.int .i64 (fill1 v)) ∧ Below w.heap.size w w' := by
  have hfd : ∀ (m : Int) (W : World), (Instr.field 30 (.agg #[.int .i64 0, .int .i64 m]) 1).run Tryz.prog W = .ok (.int .i64 m) W := fun _ _ => by kernel_rfl
  have HL := Lib.hid (fun w => len_any v w h0 (by omega))
  have HN := Lib.hid (fun w => nat_any (Lib.bitLen v.toNat) (len_lt _ (by omega)) (fill1 v) rfl w)
  generalize fill1 v = m at *
  generalize Lib.bitLen v.toNat = k at *
  go_enter Tryz.func133, Tryz.ntmps133
  go_wp2_with fail
  refine (HL.out _).mono ?_
  rintro e w' ⟨rfl, rfl⟩
  go_wp2_with fail
  refine (HN.out _).mono ?_
  rintro e w1 ⟨rfl, hB⟩
  go_wp2_with fail
  go_ret
  exact ⟨rfl, hB⟩
set_option maxHeartbeats 2000000 in
theorem j_mov (al ah bl bh : Int)  (w : World) : Calls Tryz.prog 84 #[.agg #[.int .i64 al, .int .i64 ah], .agg #[.int .i64 bl, .int .i64 bh]] w (RetJ w (some ⟨bl, bh⟩)) := by
  go_enter Tryz.func84, Tryz.ntmps84
  go_wp2_with fail
  all_goals
    refine bodyPost_ret (v := .tuple #[.agg #[.int .i64 _, .int .i64 _], .bool _]) (results_cell_tmp Tryz.results84 _ _ (w.heap.size + 2) 30 #[.int .i64 _, .int .i64 _] (0, 0) _ _ rfl rfl (new3 w _ _ _ _) Tryz.underlying30 rfl (by kernel_rfl)) rfl ?_
    exact retJ_some (box3 _ _ _ _) (by omega) (by omega)
set_option maxHeartbeats 2000000 in
theorem j_d1 (al ah bl bh : Int)  (w : World) : Calls Tryz.prog 122 #[.agg #[.int .i64 al, .int .i64 ah], .agg #[.int .i64 bl, .int .i64 bh]] w (RetJ w (some ⟨0, 1⟩)) := by
  go_enter Tryz.func122, Tryz.ntmps122
  go_wp2_with fail
  all_goals
    refine bodyPost_ret (v := .tuple #[.agg #[.int .i64 _, .int .i64 _], .bool _]) (results_cell_tmp Tryz.results122 _ _ (w.heap.size + 2) 30 #[.int .i64 _, .int .i64 _] (0, 0) _ _ rfl rfl (new3 w _ _ _ _) Tryz.underlying30 rfl (by kernel_rfl)) rfl ?_
    exact retJ_some (box3 _ _ _ _) (by omega) (by omega)
set_option maxHeartbeats 2000000 in
theorem j_d2 (al ah bl bh : Int)  (w : World) : Calls Tryz.prog 123 #[.agg #[.int .i64 al, .int .i64 ah], .agg #[.int .i64 bl, .int .i64 bh]] w (RetJ w (some ⟨al, ah⟩)) := by
  go_enter Tryz.func123, Tryz.ntmps123
  go_wp2_with fail
  all_goals
    refine bodyPost_ret (v := .tuple #[.agg #[.int .i64 _, .int .i64 _], .bool _]) (results_cell_tmp Tryz.results123 _ _ (w.heap.size + 2) 30 #[.int .i64 _, .int .i64 _] (0, 0) _ _ rfl rfl (new3 w _ _ _ _) Tryz.underlying30 rfl (by kernel_rfl)) rfl ?_
    exact retJ_some (box3 _ _ _ _) (by omega) (by omega)
set_option maxHeartbeats 2000000 in
theorem j_d4 (al ah bl bh : Int) (h1 : 1 ≤ bh) (h2 : bh ≤ 9223372036854775807) (w : World) : Calls Tryz.prog 125 #[.agg #[.int .i64 al, .int .i64 ah], .agg #[.int .i64 bl, .int .i64 bh]] w (RetJ w (some ⟨0, min ah (bh - 1)⟩)) := by
  go_enter Tryz.func125, Tryz.ntmps125
  go_wp2_with fail
  all_goals
    refine bodyPost_ret (v := .tuple #[.agg #[.int .i64 _, .int .i64 _], .bool _]) (results_cell_tmp Tryz.results125 _ _ (w.heap.size + 2) 30 #[.int .i64 _, .int .i64 _] (0, 0) _ _ rfl rfl (new3 w _ _ _ _) Tryz.underlying30 rfl (by kernel_rfl)) rfl ?_
    exact retJ_some (box3 _ _ _ _) (by omega) (by omega)
set_option maxHeartbeats 2000000 in
theorem j_d5 (al ah bl bh : Int) (h1 : 1 ≤ bh) (h2 : bh ≤ 9223372036854775807) (w : World) : Calls Tryz.prog 126 #[.agg #[.int .i64 al, .int .i64 ah], .agg #[.int .i64 bl, .int .i64 bh]] w (RetJ w (some ⟨0, bh - 1⟩)) := by
  go_enter Tryz.func126, Tryz.ntmps126
  go_wp2_with fail
  all_goals
    refine bodyPost_ret (v := .tuple #[.agg #[.int .i64 _, .int .i64 _], .bool _]) (results_cell_tmp Tryz.results126 _ _ (w.heap.size + 2) 30 #[.int .i64 _, .int .i64 _] (0, 0) _ _ rfl rfl (new3 w _ _ _ _) Tryz.underlying30 rfl (by kernel_rfl)) rfl ?_
    exact retJ_some (box3 _ _ _ _) (by omega) (by omega)
set_option maxHeartbeats 2000000 in
theorem j_b1 (al ah bl bh : Int)  (w : World) : Calls Tryz.prog 128 #[.agg #[.int .i64 al, .int .i64 ah], .agg #[.int .i64 bl, .int .i64 bh]] w (RetJ w (some ⟨0, min ah bh⟩)) := by
  go_enter Tryz.func128, Tryz.ntmps128
  go_wp2_with fail
  all_goals
    refine bodyPost_ret (v := .tuple #[.agg #[.int .i64 _, .int .i64 _], .bool _]) (results_cell_tmp Tryz.results128 _ _ (w.heap.size + 2) 30 #[.int .i64 _, .int .i64 _] (0, 0) _ _ rfl rfl (new3 w _ _ _ _) Tryz.underlying30 rfl (by kernel_rfl)) rfl ?_
    exact retJ_some (box3 _ _ _ _) (by omega) (by omega)
set_option maxHeartbeats 2000000 in
theorem j_b2 (al ah bl bh : Int)  (w : World) : Calls Tryz.prog 129 #[.agg #[.int .i64 al, .int .i64 ah], .agg #[.int .i64 bl, .int .i64 bh]] w (RetJ w (some ⟨0, ah⟩)) := by
  go_enter Tryz.func129, Tryz.ntmps129
  go_wp2_with fail
  all_goals
    refine bodyPost_ret (v := .tuple #[.agg #[.int .i64 _, .int .i64 _], .bool _]) (results_cell_tmp Tryz.results129 _ _ (w.heap.size + 2) 30 #[.int .i64 _, .int .i64 _] (0, 0) _ _ rfl rfl (new3 w _ _ _ _) Tryz.underlying30 rfl (by kernel_rfl)) rfl ?_
    exact retJ_some (box3 _ _ _ _) (by omega) (by omega)
set_option maxHeartbeats 2000000 in
theorem j_b3 (al ah bl bh : Int)  (w : World) : Calls Tryz.prog 130 #[.agg #[.int .i64 al, .int .i64 ah], .agg #[.int .i64 bl, .int .i64 bh]] w (RetJ w (some ⟨0, bh⟩)) := by
  go_enter Tryz.func130, Tryz.ntmps130
  go_wp2_with fail
  all_goals
    refine bodyPost_ret (v := .tuple #[.agg #[.int .i64 _, .int .i64 _], .bool _]) (results_cell_tmp Tryz.results130 _ _ (w.heap.size + 2) 30 #[.int .i64 _, .int .i64 _] (0, 0) _ _ rfl rfl (new3 w _ _ _ _) Tryz.underlying30 rfl (by kernel_rfl)) rfl ?_
    exact retJ_some (box3 _ _ _ _) (by omega) (by omega)
set_option maxHeartbeats 2000000 in
theorem j_b4 (al ah bl bh : Int)  (w : World) : Calls Tryz.prog 131 #[.agg #[.int .i64 al, .int .i64 ah], .agg #[.int .i64 bl, .int .i64 bh]] w (RetJ w (some ⟨(-9223372036854775808), min ah bh⟩)) := by
  go_enter Tryz.func131, Tryz.ntmps131
  go_wp2_with fail
  all_goals
    refine bodyPost_ret (v := .tuple #[.agg #[.int .i64 _, .int .i64 _], .bool _]) (results_cell_tmp Tryz.results131 _ _ (w.heap.size + 2) 30 #[.int .i64 _, .int .i64 _] (0, 0) _ _ rfl rfl (new3 w _ _ _ _) Tryz.underlying30 rfl (by kernel_rfl)) rfl ?_
    exact retJ_some (box3 _ _ _ _) (by omega) (by omega)
set_option maxHeartbeats 2000000 in
theorem j_b6 (al ah bl bh : Int)  (w : World) : Calls Tryz.prog 134 #[.agg #[.int .i64 al, .int .i64 ah], .agg #[.int .i64 bl, .int .i64 bh]] w (RetJ w (some ⟨max al bl, (-1)⟩)) := by
  go_enter Tryz.func134, Tryz.ntmps134
  go_wp2_with fail
  all_goals
    refine bodyPost_ret (v := .tuple #[.agg #[.int .i64 _, .int .i64 _], .bool _]) (results_cell_tmp Tryz.results134 _ _ (w.heap.size + 2) 30 #[.int .i64 _, .int .i64 _] (0, 0) _ _ rfl rfl (new3 w _ _ _ _) Tryz.underlying30 rfl (by kernel_rfl)) rfl ?_
    exact retJ_some (box3 _ _ _ _) (by omega) (by omega)
set_option maxHeartbeats 2000000 in
theorem j_b7 (al ah bl bh : Int)  (w : World) : Calls Tryz.prog 135 #[.agg #[.int .i64 al, .int .i64 ah], .agg #[.int .i64 bl, .int .i64 bh]] w (RetJ w (some ⟨al, (-1)⟩)) := by
  go_enter Tryz.func135, Tryz.ntmps135
  go_wp2_with fail
  all_goals
    refine bodyPost_ret (v := .tuple #[.agg #[.int .i64 _, .int .i64 _], .bool _]) (results_cell_tmp Tryz.results135 _ _ (w.heap.size + 2) 30 #[.int .i64 _, .int .i64 _] (0, 0) _ _ rfl rfl (new3 w _ _ _ _) Tryz.underlying30 rfl (by kernel_rfl)) rfl ?_
    exact retJ_some (box3 _ _ _ _) (by omega) (by omega)
set_option maxHeartbeats 2000000 in
theorem j_b8 (al ah bl bh : Int)  (w : World) : Calls Tryz.prog 136 #[.agg #[.int .i64 al, .int .i64 ah], .agg #[.int .i64 bl, .int .i64 bh]] w (RetJ w (some ⟨bl, (-1)⟩)) := by
  go_enter Tryz.func136, Tryz.ntmps136
  go_wp2_with fail
  all_goals
    refine bodyPost_ret (v := .tuple #[.agg #[.int .i64 _, .int .i64 _], .bool _]) (results_cell_tmp Tryz.results136 _ _ (w.heap.size + 2) 30 #[.int .i64 _, .int .i64 _] (0, 0) _ _ rfl rfl (new3 w _ _ _ _) Tryz.underlying30 rfl (by kernel_rfl)) rfl ?_
    exact retJ_some (box3 _ _ _ _) (by omega) (by omega)
set_option maxHeartbeats 2000000 in
theorem j_shares (al ah bl bh : Int) (h1 : -9223372036854775808 ≤ bl) (h2 : bl ≤ 9223372036854775807) (w : World) : Calls Tryz.prog 121 #[.agg #[.int .i64 al, .int .i64 ah], .agg #[.int .i64 bl, .int .i64 bh]] w (RetJ w (sharesX ⟨al, ah⟩ ⟨bl, bh⟩)) := by
  unfold sharesX
  dsimp only
  by_cases hb : bl < 2
  · rw [if_pos hb]
    go_enter Tryz.func121, Tryz.ntmps121
    go_wp2_with fail
    refine bodyPost_ret (v := .tuple #[.agg #[.int .i64 _, .int .i64 _], .bool _]) (results_cell_tmp Tryz.results121 _ _ (w.heap.size + 2) 30 #[.int .i64 _, .int .i64 _] (0, 0) _ _ rfl rfl (new3 w _ _ _ _) Tryz.underlying30 rfl (by kernel_rfl)) rfl ?_
    exact retJ_none (box3 _ _ _ _)
  · rw [if_neg hb]
    have hq0 : 0 ≤ 18446744073709551615 / bl := Int.ediv_nonneg (by decide) (by omega)
    have hq1 : 18446744073709551615 / bl ≤ 9223372036854775807 := by
      have h3 := Int.ediv_mul_le 18446744073709551615 (show bl ≠ 0 by omega)
      have h4 : 18446744073709551615 / bl * 2 ≤ 18446744073709551615 / bl * bl := Int.mul_le_mul_of_nonneg_left (by omega) hq0
      omega
    have hz : (bl == 0) = false := by rw [beq_eq_false_iff_ne]; omega
    have hz' : ¬ bl = 0 := by omega
    have hb' : 2 ≤ bl := by omega
    clear hb
    go_enter Tryz.func121, Tryz.ntmps121
    go_wp2_with fail
    refine bodyPost_ret (v := .tuple #[.agg #[.int .i64 _, .int .i64 _], .bool _]) (results_cell_tmp Tryz.results121 _ _ (w.heap.size + 2) 30 #[.int .i64 _, .int .i64 _] (0, 0) _ _ rfl rfl (new3 w _ _ _ _) Tryz.underlying30 rfl (by kernel_rfl)) rfl ?_
    exact retJ_some (box3 _ _ _ _) rfl rfl
def restL (al bl bh : Int) : Int := min 0 (max (-(max (bh - 1) (-(bl + 1)))) al)
def restH (ah bl bh : Int) : Int := max 0 (min (max (bh - 1) (-(bl + 1))) ah)
set_option maxHeartbeats 4000000 in
theorem j_rest (al ah bl bh : Int) (hb : (⟨bl, bh⟩ : E).ok) (hs : 0 < bl ∨ bh < 0) (w : World) : Calls Tryz.prog 127 #[.agg #[.int .i64 al, .int .i64 ah], .agg #[.int .i64 bl, .int .i64 bh]] w (RetJ w (some ⟨restL al bl bh, restH ah bl bh⟩)) := by
  obtain ⟨h1, h2, h3⟩ := hb
  unfold LEAST TOP at *
  dsimp only at *
  unfold restL restH
  rcases (by omega : (bl = -9223372036854775808 ∧ bh = -9223372036854775808) ∨ (bl = 9223372036854775807 ∧ bh = 9223372036854775807) ∨ (bl < 9223372036854775807 ∧ -9223372036854775808 < bh)) with ⟨rfl, rfl⟩ | ⟨rfl, rfl⟩ | ⟨h4, h5⟩
  all_goals
    go_enter Tryz.func127, Tryz.ntmps127
    go_wp2_with fail
  all_goals
    refine bodyPost_ret (v := .tuple #[.agg #[.int .i64 _, .int .i64 _], .bool _]) (results_cell_tmp Tryz.results127 _ _ (w.heap.size + 2) 30 #[.int .i64 _, .int .i64 _] (0, 0) _ _ rfl rfl (new3 w _ _ _ _) Tryz.underlying30 rfl (by kernel_rfl)) rfl ?_
    refine retJ_some (box3 _ _ _ _) ?_ ?_
  all_goals first | omega | (unfold wrap64; omega) | skip
end Spc
end Go.Proofs.YtjhgjplhhhgfcaaGreat
