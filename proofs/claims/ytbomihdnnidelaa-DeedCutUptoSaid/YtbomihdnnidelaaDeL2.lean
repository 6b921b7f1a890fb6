/- Package deed: the deferred closure of Decode. -/
import Derived.Test.YtbomihdnnidelaaDeL
namespace Go.Proofs.Ytbomihdnnidelaa
open Go.ChangeShapes Go.WideShapes Go.ChangeAt Go.RowKit
open Dee
set_option linter.unusedVariables false
set_option linter.unusedSimpArgs false
set_option maxRecDepth 100000
section
variable {P : Program}
theorem step_store_seg {ops : Array Oper} {o : Oper} {a : Act} {w : World} {K : Act → World → Prop} {Q : Exit → Act → World → Prop} {E : Prop} (hw : Region.wanted o (yielded ops a.tmps) = true) (ty : TypeId) (x y : Operand) (ho : o.op = .store ty x y)
    (g off : Nat) (t : TypeId) (N n : Nat) (f c : Nat → Value) (hx : a.eval x = .pointer (some ⟨g, off, none⟩)) (hy : a.eval y = .agg (arr n c))
    (hg : FB w g t N f) (hn : off + n ≤ N) (hi : (P.info? ty).map (·.size) = some n) (h1 : ∀ q, q < n → (c q).oneCell' = true)
    (h : ∀ w', FB w' g t N (updR f off n c) → Touch g w w' → w'.heap.size = w.heap.size → K (a.put o.dst undef) w') : if Region.wanted o (yielded ops a.tmps) = true then Oper.wp P o a w K Q else E := by
  rw [if_pos hw]
  unfold Oper.wp execOp
  simp only [ho, hx, hy, Instr.storeAt, Instr.sureAddr, Sem.run_bind, Sem.run_pure, Result.andThen_ok, run_storeVar_seg w g off t ty N n f c hg hn hi h1]
  exact h _ (setRow_FB hg) (setRow_touch w g _) (by simp)
end
set_option maxHeartbeats 4000000 in
theorem catch_pan (gd ga ge : Nat) (x y olda olde : Int) (hy : y ≠ 0) (fd : Nat → Value) (older : List PanicEntry) (w : World) (bd : FB w gd 26 2 fd) (ba : Blk w ga 3 #[.int .i64 olda]) (be : Blk w ge 29 #[.int .i64 olde]) :
    CallsD Try.prog 36 #[.pointer (some ⟨gd, 0, none⟩), .pointer (some ⟨ga, 0, none⟩), .pointer (some ⟨ge, 0, none⟩)] (.panicking ({ v := .iface 81 (.agg #[.int .i64 x, .int .i64 y]), recovered := false } :: older)) w fun e u' w' =>
      e = .returned (.tuple #[]) ∧ u' = .panicking ({ v := .iface 81 (.agg #[.int .i64 x, .int .i64 y]), recovered := true } :: older) ∧ FB w' gd 26 2 (deF (.slice none 0 0) (.slice none 0 0)) ∧ Blk w' ga 3 #[.int .i64 x] ∧ Blk w' ge 29 #[.int .i64 y] ∧ ∀ B, B ≤ gd → B ≤ ga → B ≤ ge → B ≤ w.heap.size → Below B w w' := by
  have n1 : gd ≠ ga := bd.ne_ ba (by decide)
  have n2 : gd ≠ ge := bd.ne_ be (by decide)
  have n3 : ga ≠ ge := ba.ne_ be (by decide)
  refine callsD_of_wpS Try.func36 rfl fun c₀ cs hu => ?_
  apply wpS_seq
  apply wpS_region
  simp [wpOpsS, go_sem, recoverD, hu, Try.ntmps36, Exit.thenS]
  refine (caught_err x y w).mono ?_
  rintro e w1 ⟨rfl, hB⟩
  have bd1 := bd.up hB
  have ba1 := ba.below hB ba.lt
  have be1 := be.below hB be.lt
  simp [go_sem]
  obtain ⟨gf, hgf⟩ : ∃ gf, gf = w1.heap.size := ⟨_, rfl⟩
  have hB2 := below_box w1 (.cells #[.int .i64 x, .int .i64 y] 81)
  have hbf := Blk.new w1 81 #[.int .i64 x, .int .i64 y]
  obtain ⟨w2, hw2⟩ : ∃ w2, w2 = w1.alloc (.cells #[.int .i64 x, .int .i64 y] 81) := ⟨_, rfl⟩
  rw [← hw2] at hB2 hbf ⊢
  rw [← hgf] at hbf ⊢
  have m1 : gd ≠ gf := by have := bd1.lt; omega
  have m2 : ga ≠ gf := by have := ba1.lt; omega
  have m3 : ge ≠ gf := by have := be1.lt; omega
  have bd2 := bd1.up hB2
  have ba2 := ba1.below hB2 ba1.lt
  have be2 := be1.below hB2 be1.lt
  have HBA := Lib.hid (hB.trans (hB2.mono hB.size))
  clear hw2 hgf hB hB2 bd1 ba1 be1 bd ba be
  refine wpS_of_wp ?_
  have y0 : w2.cell? ⟨gf, 0, none⟩ = some (.int .i64 x) := hbf.cell 0
  have y1 : w2.cell? ⟨gf, 1, none⟩ = some (.int .i64 y) := hbf.cell 1
  have HBD := Lib.hid bd2
  have HBAA := Lib.hid ba2
  have HBE := Lib.hid be2
  have HN := Lib.hid (And.intro n1 (And.intro n2 (And.intro n3 (And.intro m1 (And.intro m2 m3)))))
  have ty : (y != 0) = true := by rw [bne_iff_ne]; exact hy
  clear bd2 ba2 be2 hbf hy n1 n2 n3 m1 m2 m3
  change Code.wp Try.prog _ _ { tmps := #[.pointer (some ⟨gd, 0, none⟩), .pointer (some ⟨ga, 0, none⟩), .pointer (some ⟨ge, 0, none⟩), .pointer (some ⟨gf, 0, none⟩), .iface 81 (.agg #[.int .i64 x, .int .i64 y]), .agg #[.int .i64 x, .int .i64 y], undef, undef, undef, undef, undef, undef, undef, undef], defers := [] } w2
  go_wp2_with fail
  obtain ⟨N1, N2, N3, N4, N5, N6⟩ := HN.out
  refine wp_region_held_drew (S := fun w' => w'.cell? ⟨gf, 0, none⟩ = some (.int .i64 x) ∧ w'.cell? ⟨gf, 1, none⟩ = some (.int .i64 y)) (by kernel_rfl) ⟨y0, y1⟩ (fun hHeld => ?_)
  clear y0 y1
  refine wpAnyH_take (i := 0) (oi := _) (v := .agg #[.slice none 0 0, .slice none 0 0]) rfl (by kernel_rfl) (by kernel_rfl) (by kernel_rfl) (fun _ _ _ h => h) (Or.inl ⟨by rfl, ?_⟩) hHeld ?_
  · intro w hSw
    go_simp
  try simp only [Act.put, List.setIfInBounds_toArray, List.set_cons_zero, List.set_cons_succ]
  refine wpAnyH_take (i := 1) (oi := _) (v := .pointer (some ⟨gf, 0, none⟩)) rfl (by kernel_rfl) (by kernel_rfl) (by kernel_rfl) (fun _ _ _ h => h) (Or.inl ⟨by rfl, ?_⟩) hHeld ?_
  · intro w hSw
    go_simp
  try simp only [Act.put, List.setIfInBounds_toArray, List.set_cons_zero, List.set_cons_succ]
  refine wpAnyH_take (i := 2) (oi := _) (v := .int .i64 x) rfl (by kernel_rfl) (by kernel_rfl) (by kernel_rfl) (fun _ _ _ h => h) (Or.inl ⟨by rfl, ?_⟩) hHeld ?_
  · rintro w ⟨hSw1, hSw2⟩
    go_simp
  try simp only [Act.put, List.setIfInBounds_toArray, List.set_cons_zero, List.set_cons_succ]
  refine wpAnyH_take (i := 3) (oi := _) (v := .pointer (some ⟨gf, 1, none⟩)) rfl (by kernel_rfl) (by kernel_rfl) (by kernel_rfl) (fun _ _ _ h => h) (Or.inl ⟨by rfl, ?_⟩) hHeld ?_
  · intro w hSw
    go_simp
  try simp only [Act.put, List.setIfInBounds_toArray, List.set_cons_zero, List.set_cons_succ]
  refine wpAnyH_take (i := 4) (oi := _) (v := .int .i64 y) rfl (by kernel_rfl) (by kernel_rfl) (by kernel_rfl) (fun _ _ _ h => h) (Or.inl ⟨by rfl, ?_⟩) hHeld ?_
  · rintro w ⟨hSw1, hSw2⟩
    go_simp
  try simp only [Act.put, List.setIfInBounds_toArray, List.set_cons_zero, List.set_cons_succ]
  refine wpAnyH_ready (rs := [5]) (by kernel_rfl) (by simp) ?_
  refine AllReadyH.cons rfl (fun K hK => ?_) AllReadyH.nil
  refine step_store_seg (by rfl) 26 _ _ rfl gd 0 26 2 2 _ (deF (.slice none 0 0) (.slice none 0 0)) rfl rfl (show FB w2.drew gd 26 2 fd from HBD.out) (by omega) sizeDeed (deF_one rfl rfl) ?_
  intro w3 h3 hT3 hs3
  have e0 : w3.cell? ⟨gf, 0, none⟩ = some (.int .i64 x) := (cell_same (hT3.block gf (by
    rcases Nat.lt_or_ge gf w2.drew.heap.size with h | h
    · exact h
    · have := hHeld.1; simp [World.cell?, Array.getElem?_eq_none h] at this) (fun e => N4 e.symm)) 0).trans hHeld.1
  have e1 : w3.cell? ⟨gf, 1, none⟩ = some (.int .i64 y) := (cell_same (hT3.block gf (by
    rcases Nat.lt_or_ge gf w2.drew.heap.size with h | h
    · exact h
    · have := hHeld.1; simp [World.cell?, Array.getElem?_eq_none h] at this) (fun e => N4 e.symm)) 1).trans hHeld.2
  have ba3 := (show Blk w2.drew ga 3 #[.int .i64 olda] from HBAA.out).touch hT3 (fun e => N1 e.symm)
  have be3 := (show Blk w2.drew ge 29 #[.int .i64 olde] from HBE.out).touch hT3 (fun e => N2 e.symm)
  have HB3 := Lib.hid (show ∀ B, B ≤ gd → B ≤ ga → B ≤ ge → B ≤ w.heap.size → Below B w w3 from fun B b1 b2 b3 b4 => (below_drewN' (HBA.out.mono b4) 1).trans (hT3.below b1 (Nat.le_trans b4 HBA.out.size)))
  have H3 := Lib.hid (show FB w3 gd 26 2 (deF (.slice none 0 0) (.slice none 0 0)) from h3.congr fun q hq => by unfold updR; rw [if_pos (by omega), Nat.sub_zero])
  have HS3 := Lib.hid (show w.heap.size ≤ w3.heap.size by rw [hs3]; exact HBA.out.size)
  have q0 : w3.cell? ⟨ga, 0, none⟩ = some (.int .i64 olda) := ba3.cell 0
  have f0 : w3.frozen? ⟨ga, 0, none⟩ = false := ba3.frozen 0
  have HBA3 := Lib.hid ba3
  have HBE3 := Lib.hid be3
  clear h3 hT3 hs3 hHeld HBD HBAA HBE HBA ba3 be3
  refine hK.out _ _ ⟨e0, e1⟩ (fun hHeld => ?_)
  clear hK K hHeld
  try simp only [Act.put, List.setIfInBounds_toArray, List.set_cons_zero, List.set_cons_succ]
  refine wpAnyH_ready (rs := [6]) (by kernel_rfl) (by simp) ?_
  refine AllReadyH.cons rfl (fun K hK => ?_) AllReadyH.nil
  go_simp
  obtain ⟨w4, hw4⟩ : ∃ w4, w4 = w3.setCell ⟨ga, 0, none⟩ (.int .i64 x) := ⟨_, rfl⟩
  have d0 : w4.cell? ⟨gf, 0, none⟩ = some (.int .i64 x) := by rw [hw4, World.cell?_setCell_other _ _ _ _ (fun e => by injection e with e; exact N5 e)]; exact e0
  have d1 : w4.cell? ⟨gf, 1, none⟩ = some (.int .i64 y) := by rw [hw4, World.cell?_setCell_other _ _ _ _ (fun e => by injection e with e; exact N5 e)]; exact e1
  have H4 := Lib.hid (show FB w4 gd 26 2 (deF (.slice none 0 0) (.slice none 0 0)) by rw [hw4]; exact H3.out.touch (Touch.set_ w3 0 _) N1)
  have HBA4 := Lib.hid (show Blk w4 ga 3 #[.int .i64 x] by rw [hw4]; exact HBA3.out.set_ 0 _)
  have be4 : Blk w4 ge 29 #[.int .i64 olde] := by rw [hw4]; exact HBE3.out.touch (Touch.set_ w3 0 _) (fun e => N3 e.symm)
  have HB4 := Lib.hid (show ∀ B, B ≤ gd → B ≤ ga → B ≤ ge → B ≤ w.heap.size → Below B w w4 from fun B b1 b2 b3 b4 => (HB3.out B b1 b2 b3 b4).trans (by rw [hw4]; exact (Touch.set_ w3 0 _).below b2 (Nat.le_trans b4 HS3.out)))
  have HS4 := Lib.hid (show w.heap.size ≤ w4.heap.size by rw [hw4]; exact Nat.le_trans HS3.out (Touch.set_ (g := ga) w3 0 (.int .i64 x)).size)
  rw [← hw4]
  have q4 : w4.cell? ⟨ge, 0, none⟩ = some (.int .i64 olde) := be4.cell 0
  have f4 : w4.frozen? ⟨ge, 0, none⟩ = false := be4.frozen 0
  have HBE4 := Lib.hid be4
  clear hw4 e0 e1 q0 f0 H3 HBA3 HBE3 HB3 HS3 be4
  refine hK.out _ _ ⟨d0, d1⟩ (fun hHeld => ?_)
  clear hK K hHeld
  try simp only [Act.put, List.setIfInBounds_toArray, List.set_cons_zero, List.set_cons_succ]
  refine wpAnyH_ready (rs := [7]) (by kernel_rfl) (by simp) ?_
  refine AllReadyH.cons rfl (fun K hK => ?_) AllReadyH.nil
  go_simp
  obtain ⟨w5, hw5⟩ : ∃ w5, w5 = w4.setCell ⟨ge, 0, none⟩ (.int .i64 y) := ⟨_, rfl⟩
  have d2 : w5.cell? ⟨gf, 0, none⟩ = some (.int .i64 x) := by rw [hw5, World.cell?_setCell_other _ _ _ _ (fun e => by injection e with e; exact N6 e)]; exact d0
  have d3 : w5.cell? ⟨gf, 1, none⟩ = some (.int .i64 y) := by rw [hw5, World.cell?_setCell_other _ _ _ _ (fun e => by injection e with e; exact N6 e)]; exact d1
  have h5 : FB w5 gd 26 2 (deF (.slice none 0 0) (.slice none 0 0)) := by rw [hw5]; exact H4.out.touch (Touch.set_ w4 0 _) N2
  have ba5 : Blk w5 ga 3 #[.int .i64 x] := by rw [hw5]; exact HBA4.out.touch (Touch.set_ w4 0 _) N3
  have be5 : Blk w5 ge 29 #[.int .i64 y] := by rw [hw5]; exact HBE4.out.set_ 0 _
  have hb5 : ∀ B, B ≤ gd → B ≤ ga → B ≤ ge → B ≤ w.heap.size → Below B w w5 := fun B b1 b2 b3 b4 => (HB4.out B b1 b2 b3 b4).trans (by rw [hw5]; exact (Touch.set_ w4 0 _).below b3 (Nat.le_trans b4 HS4.out))
  rw [← hw5]
  refine hK.out _ _ ⟨d2, d3⟩ (fun hHeld => ?_)
  clear hK K hHeld d0 d1 q4 f4
  try simp only [Act.put, List.setIfInBounds_toArray, List.set_cons_zero, List.set_cons_succ]
  refine wpAnyH_done (by kernel_rfl) ?_ _
  exact ⟨rfl, _, rfl, _, by simp [results, Try.results36], rfl, rfl, h5, ba5, be5, hb5⟩
set_option maxHeartbeats 4000000 in
theorem catch_idle (d a e : Value) (w : World) :
    CallsD Try.prog 36 #[d, a, e] .returning w fun e u' w' => e = .returned (.tuple #[]) ∧ u' = .returning ∧ Below w.heap.size w w' := by
  refine callsD_of_wpS Try.func36 rfl fun c₀ cs hu => ?_
  apply wpS_seq
  apply wpS_region
  simp [wpOpsS, go_sem, recoverD, hu, Try.ntmps36, Exit.thenS]
  refine (caught_nil w).mono ?_
  rintro e w1 ⟨rfl, hB⟩
  simp [go_sem]
  have hB2 := below_box w1 (.cells #[.int .i64 0, .int .i64 0] 81)
  have hbf := Blk.new w1 81 #[.int .i64 0, .int .i64 0]
  generalize w1.alloc (.cells #[.int .i64 0, .int .i64 0] 81) = w2 at *
  have y1 : w2.cell? ⟨w1.heap.size, 1, none⟩ = some (.int .i64 0) := hbf.cell 1
  have HB := Lib.hid (hB.trans (hB2.mono hB.size))
  clear hB hB2 hbf
  generalize w1.heap.size = gf at *
  refine wpS_of_wp ?_
  change Code.wp Try.prog _ _ { tmps := #[d, a, e, .pointer (some ⟨gf, 0, none⟩), .nilIface, .agg #[.int .i64 0, .int .i64 0], undef, undef, undef, undef, undef, undef, undef, undef], defers := [] } w2
  go_wp2_with fail
  cases c₀
  simp_all [bodyPostS, results, Try.results36]
  exact HB.out
end Go.Proofs.Ytbomihdnnidelaa
