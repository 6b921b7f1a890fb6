/- Package shape: tags laid together. -/
import Derived.Test.YtejcijbohnlbgaaShA
namespace Go.Proofs.Ytejcijbohnlbgaa
open Go.ChangeShapes Go.WideShapes Go.ChangeAt Go.RowKit
open Zon
set_option linter.unusedVariables false
set_option linter.unusedSimpArgs false
set_option maxRecDepth 100000
section
variable {P : Program}
theorem run_copy_seg (w : World) (dT sT ty elem : TypeId) (size g off dLen dCap ga oa sLen sCap m : Nat) (t t2 : TypeId) (N N2 : Nat) (f f2 : Nat → Value)
    (hu : P.underlying dT = some (.slice elem)) (hsz : (P.info? elem).map (·.size) = some size) (hm : Nat.min sLen dLen = m)
    (hg : FB w g t N f) (hg2 : FB w ga t2 N2 f2) (h1 : off + m * size ≤ N) (h2 : oa + m * size ≤ N2) (h3 : ∀ q, q < m * size → (f2 (oa + q)).oneCell' = true) :
    (Builtin.copy_ #[dT, sT] ty #[.slice (some ⟨g, off, none⟩) dLen dCap, .slice (some ⟨ga, oa, none⟩) sLen sCap]).run P w = .ok (goInt m) (w.setRow g (arr N (updR f off (m * size) (fun q => f2 (oa + q))))) := by
  have hl : (loadCells ⟨ga, oa, none⟩ ((List.range (m * size)).map fun q => f2 (oa + q)).length).run P w = .ok ((List.range (m * size)).map fun q => f2 (oa + q)).toArray w :=
    run_loadCells_list (P := P) w ⟨ga, oa, none⟩ _ (fun j v hv => by
      have hj : j < m * size := by
        rcases Nat.lt_or_ge j (m * size) with h | h
        · exact h
        · rw [List.getElem?_eq_none (by simpa using h)] at hv; cases hv
      rw [addr_add, hg2.cell (oa + j) (by omega)]
      rw [List.getElem?_map, List.getElem?_range hj] at hv
      exact hv)
  rw [List.length_map, List.length_range] at hl
  have hst := run_storeCells_at P g off t (arr (m * size) fun q => f2 (oa + q)).toList 0 (arr N f) w hg (by simp [arr]; omega) (fun v hv => by
    rw [arr_toList, List.mem_map] at hv
    obtain ⟨q, hq, rfl⟩ := hv
    exact h3 q (by simpa using hq))
  rw [Nat.add_zero, updR_list N off (m * size) f _ h1] at hst
  cases hq : P.info? elem with
  | none => simp [hq] at hsz
  | some i =>
    have hi : i.size = size := by simpa [hq] using hsz
    have hm' : min sLen dLen = m := hm
    simp [Builtin.copy_, run_underlying hu, Builtin.lenOf, Builtin.firstCells, sizeOf, typeInfo, hq, hi, hm, hm', hl, arr_toList] at hst ⊢
    simp [hst]
theorem wpList_copy_seg {ops : Array Oper} {rest : List Oper} {o : Oper} {a : Act} {w : World} {Q : Exit → Act → World → Prop} (hgd : o.guard = none) (d s : Operand) (dT sT : TypeId)
    (ho : o.op = .call { callee := .builtin .copy, args := #[d, s], argTypes := #[dT, sT] }) (elem : TypeId) (size g off dLen dCap ga oa sLen sCap m : Nat) (t t2 : TypeId) (N N2 : Nat) (f f2 : Nat → Value)
    (hd : a.eval d = .slice (some ⟨g, off, none⟩) dLen dCap) (hs : a.eval s = .slice (some ⟨ga, oa, none⟩) sLen sCap)
    (hu : P.underlying dT = some (.slice elem)) (hsz : (P.info? elem).map (·.size) = some size) (hm : Nat.min sLen dLen = m)
    (hg : FB w g t N f) (hg2 : FB w ga t2 N2 f2) (h1 : off + m * size ≤ N) (h2 : oa + m * size ≤ N2) (h3 : ∀ q, q < m * size → (f2 (oa + q)).oneCell' = true)
    (h : ∀ w', FB w' g t N (updR f off (m * size) (fun q => f2 (oa + q))) → Touch g w w' → w'.heap.size = w.heap.size → wpList P ops Q rest (a.put o.dst (goInt m)) w') : wpList P ops Q (o :: rest) a w :=
  wpList_plain hgd fun _ hK => by
    have hrun := run_copy_seg (P := P) w dT sT o.type elem size g off dLen dCap ga oa sLen sCap m t t2 N N2 f f2 hu hsz hm hg hg2 h1 h2 h3
    unfold Oper.wp execOp
    simp only [ho, resolve, invoke, builtin, Sem.run_bind, Sem.run_pure, Result.andThen_ok, List.map_toArray, List.map_cons, List.map_nil, hd, hs, hrun]
    exact hK _ _ (h _ (setRow_FB hg) (setRow_touch w g _) (by simp))
end
theorem sizeTag : (Try.prog.info? 58).map (·.size) = some 3 := by kernel_rfl
theorem zeroTags : (Try.prog.info? 80).bind (fun i => i.zero.map Value.cells) = some (arr 126 (tgF fun _ => 0)) := by kernel_rfl
theorem sizeTags : (Try.prog.info? 80).map (·.size) = some 126 := by kernel_rfl
theorem tgF_one (T : Nat → Int) (n : Nat) : ∀ q, q < n → (tgF T q).oneCell' = true := fun _ _ => rfl
def joinT2 (A B : Nat → Int) : Nat → Int := fun k => if k < 30 then A k else B (k - 30)
set_option maxHeartbeats 2000000 in
theorem together_any (w : World) (A B : Nat → Int) : Calls Try.prog 63 #[.agg (arr 30 (tgF A)), .agg (arr 96 (tgF B))] w (RetV w (.agg (arr 126 (tgF (joinT2 A B))))) := by
  go_enter Try.func63, Try.ntmps63
  go_upto_region 1 with (first
    | (refine wpList_box_seg rfl _ (.tmp 0) rfl 30 (tgF A) rfl ?_; intro w1 hF1 hB1 hs1)
    | (refine wpList_box_seg rfl _ (.tmp 1) rfl 96 (tgF B) rfl ?_; intro w2 hF2 hB2 hs2)
    | (refine wpList_alloc_seg rfl 80 rfl 126 (tgF fun _ => 0) zeroTags ?_; intro w3 hF3 hB3 hs3))
  go_upto_region 2 with (refine wpList_alloc_seg rfl 80 rfl 126 (tgF fun _ => 0) zeroTags ?_; intro w4 hF4 hB4 hs4)
  have q1 : FB w4 w.heap.size _ 30 (tgF A) := (((hF1.up hB2).up hB3).up hB4)
  have q2 : FB w4 w1.heap.size _ 96 (tgF B) := ((hF2.up hB3).up hB4)
  have q3 : FB w4 w2.heap.size _ 126 (tgF fun _ => 0) := hF3.up hB4
  have qB : Below w.heap.size w w4 := hB1.trans ((hB2.trans ((hB3.trans (hB4.mono hB3.size)).mono hB2.size)).mono hB1.size)
  obtain ⟨g2, hg2⟩ : ∃ g, g = w.heap.size := ⟨_, rfl⟩
  obtain ⟨g3, hg3⟩ : ∃ g, g = w1.heap.size := ⟨_, rfl⟩
  obtain ⟨g4, hg4⟩ : ∃ g, g = w2.heap.size := ⟨_, rfl⟩
  obtain ⟨g5, hg5⟩ : ∃ g, g = w3.heap.size := ⟨_, rfl⟩
  have HN := Lib.hid (show w.heap.size ≤ g2 ∧ g3 ≠ g2 ∧ g5 ≠ g2 ∧ g5 ≠ g3 ∧ g5 ≠ g4 ∧ g4 ≠ g5 ∧ w.heap.size ≤ g5 ∧ w.heap.size ≤ g4 by omega)
  rw [← hg2] at q1 ⊢
  rw [← hg3] at q2 ⊢
  rw [← hg4] at q3 ⊢
  rw [← hg5] at hF4 ⊢
  have H2 := Lib.hid q1
  have H3 := Lib.hid q2
  have H4 := Lib.hid q3
  have H5 := Lib.hid hF4
  have HB := Lib.hid qB
  clear q1 q2 q3 qB hF1 hB1 hs1 hF2 hB2 hs2 hF3 hB3 hs3 hF4 hB4 hs4 hg2 hg3 hg4 hg5
  refine wp_region_tail 2 (by kernel_rfl) (by kernel_rfl) fun W hW => ?_
  simp only [List.take_succ_cons, List.take_zero, List.drop_succ_cons, List.drop_zero]
  have H2W := Lib.hid (show FB W g2 _ 30 (tgF A) by rw [hW]; exact H2.out)
  have H3W := Lib.hid (show FB W g3 _ 96 (tgF B) by rw [hW]; exact H3.out)
  have H4W := Lib.hid (show FB W g4 _ 126 (tgF fun _ => 0) by rw [hW]; exact H4.out)
  have H5W := Lib.hid (show FB W g5 _ 126 (tgF fun _ => 0) by rw [hW]; exact H5.out)
  have HBW := Lib.hid (show Below w.heap.size w W by rw [hW]; exact below_drewN' HB.out 1)
  clear H2 H3 H4 H5 HB hW
  iterate 2 still_step
  refine wpStill_nil ?_
  go_wp2_with (refine wpList_copy_seg rfl _ _ _ _ rfl 58 3 g5 0 42 42 g2 0 10 10 10 _ _ 126 30 _ _ rfl rfl Try.underlying134 sizeTag (by decide) H5W.out H2W.out (by decide) (by decide) (fun _ _ => rfl) ?_; intro w5 h5 hT5 hs5)
  have H5a := Lib.hid h5
  have H3a := Lib.hid (H3W.out.touch hT5 (fun e => HN.out.2.2.2.1 e.symm))
  have H4a := Lib.hid (H4W.out.touch hT5 HN.out.2.2.2.2.2.1)
  have HBa := Lib.hid (HBW.out.trans (hT5.below HN.out.2.2.2.2.2.2.1 HBW.out.size))
  clear h5 hT5 hs5 H2W H3W H4W H5W HBW
  refine wp_region_tail 3 (by kernel_rfl) (by kernel_rfl) fun V hV => ?_
  simp only [List.take_succ_cons, List.take_zero, List.drop_succ_cons, List.drop_zero]
  have H5V := Lib.hid (show FB V g5 _ 126 _ by rw [hV]; exact H5a.out)
  have H3V := Lib.hid (show FB V g3 _ 96 (tgF B) by rw [hV]; exact H3a.out)
  have H4V := Lib.hid (show FB V g4 _ 126 (tgF fun _ => 0) by rw [hV]; exact H4a.out)
  have HBV := Lib.hid (show Below w.heap.size w V by rw [hV]; exact below_drewN' HBa.out 1)
  clear H5a H3a H4a HBa hV
  iterate 3 still_step
  refine wpStill_nil ?_
  go_upto_region 4 with (refine wpList_copy_seg rfl _ _ _ _ rfl 58 3 g5 30 32 32 g3 0 32 32 32 _ _ 126 96 _ _ rfl rfl Try.underlying134 sizeTag (by decide) H5V.out H3V.out (by decide) (by decide) (fun _ _ => rfl) ?_; intro w6 h6 hT6 hs6)
  have H6 := Lib.hid (show FB w6 g5 80 126 (tgF (joinT2 A B)) from h6.congr fun k hk => by
    unfold updR tgF joinT2
    by_cases e : k < 30
    · rw [if_neg (by omega), if_pos (by omega), if_pos e]; simp
    · rw [if_pos (by omega), if_neg e]; simp)
  have H46 := Lib.hid (H4V.out.touch hT6 HN.out.2.2.2.2.2.1)
  have HB6 := Lib.hid (HBV.out.trans (hT6.below HN.out.2.2.2.2.2.2.1 HBV.out.size))
  clear h6 hT6 hs6 H5V H3V H4V HBV
  obtain ⟨J, hJ⟩ : ∃ J, J = tgF (joinT2 A B) := ⟨_, rfl⟩
  have HJ1 := Lib.hid (show ∀ q, q < 126 → (J q).oneCell' = true by rw [hJ]; exact tgF_one _ _)
  rw [← hJ] at H6
  have HJE := Lib.hid hJ
  clear hJ
  go_wp2_with (first
    | (refine wpList_load_all rfl 80 _ rfl g5 rfl 80 126 J _ H6.out Try.underlying80 rfl sizeTags ?_)
    | (refine wpList_store_all rfl 80 _ _ rfl g4 80 126 _ J rfl rfl H46.out sizeTags HJ1.out ?_; intro w7 h7 hT7 hs7))
  refine bodyPost_ret (result_seg rfl _ _ g4 _ 126 _ _ rfl h7 Try.underlying80 rfl sizeTags) rfl ⟨by rw [HJE.out], ?_⟩
  exact HB6.out.trans (hT7.below HN.out.2.2.2.2.2.2.2 HB6.out.size)
end Go.Proofs.Ytejcijbohnlbgaa
