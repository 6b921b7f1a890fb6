/- Package shape: all tags are good. Written by mkshd.py. -/
import Derived.Test.YtejcijbohnlbgaaShC
namespace Go.Proofs.Ytejcijbohnlbgaa
open Go.ChangeShapes Go.WideShapes Go.ChangeAt Go.RowKit
open Zon
set_option linter.unusedVariables false
set_option linter.unusedSimpArgs false
set_option maxRecDepth 100000
section
variable {P : Program}
theorem step_alloc_seg {ops : Array Oper} {o : Oper} {a : Act} {w : World} {K : Act → World → Prop} {Q : Exit → Act → World → Prop} {E : Prop} (hw : Region.wanted o (yielded ops a.tmps) = true) (t : TypeId) (ho : o.op = .alloc t)
    (n : Nat) (f : Nat → Value) (hz : (P.info? t).bind (fun i => i.zero.map Value.cells) = some (arr n f))
    (h : ∀ w', FB w' w.heap.size t n f → Below w.heap.size w w' → w'.heap.size = w.heap.size + 1 → K (a.put o.dst (.pointer (some ⟨w.heap.size, 0, none⟩))) w') : if Region.wanted o (yielded ops a.tmps) = true then Oper.wp P o a w K Q else E := by
  rw [if_pos hw]
  unfold Oper.wp execOp
  simp only [ho, Sem.run_bind, run_alloc_seg w t n f hz, Result.andThen_ok, Sem.run_pure]
  exact h _ (FB.new w t n f) ((Below.refl _ _).alloc (Nat.le_refl _) _) (by simp)
theorem step_store_seg {ops : Array Oper} {o : Oper} {a : Act} {w : World} {K : Act → World → Prop} {Q : Exit → Act → World → Prop} {E : Prop} (hw : Region.wanted o (yielded ops a.tmps) = true) (ty : TypeId) (x y : Operand) (ho : o.op = .store ty x y)
    (g off : Nat) (t : TypeId) (N n : Nat) (f c : Nat → Value) (hx : a.eval x = .pointer (some ⟨g, off, none⟩)) (hy : a.eval y = .agg (arr n c))
    (hg : FB w g t N f) (hn : off + n ≤ N) (hi : (P.info? ty).map (·.size) = some n) (h1 : ∀ q, q < n → (c q).oneCell' = true)
    (h : ∀ w', FB w' g t N (updR f off n c) → Touch g w w' → w'.heap.size = w.heap.size → K (a.put o.dst undef) w') : if Region.wanted o (yielded ops a.tmps) = true then Oper.wp P o a w K Q else E := by
  rw [if_pos hw]
  unfold Oper.wp execOp
  simp only [ho, hx, hy, Instr.storeAt, Instr.sureAddr, Sem.run_bind, Sem.run_pure, Result.andThen_ok, run_storeVar_seg w g off t ty N n f c hg hn hi h1]
  exact h _ (setRow_FB hg) (setRow_touch w g _) (by simp)
end
theorem zeroTag : (Try.prog.info? 58).bind (fun i => i.zero.map Value.cells) = some (arr 3 (fun _ => .int .i64 0)) := by kernel_rfl
def tag3 (T : Nat → Int) (k : Nat) : Nat → Value := fun q => .int .i64 (T (k * 3 + q))
theorem tag3_arr (T : Nat → Int) (k : Nat) : (#[.int .i64 (T (k * 3)), .int .i64 (T (k * 3 + 1)), .int .i64 (T (k * 3 + 2))] : Array Value) = arr 3 (tag3 T k) := rfl
def tagOk (T : Nat → Int) (n : Nat) : Bool := good1 (T (n * 3)) (T (n * 3 + 1)) (T (n * 3 + 2)) (decide ((12 : Int) ≤ 2 + n))
def goodT (T : Nat → Int) : Bool := (List.range 42).all (tagOk T)
theorem goodT_no {T : Nat → Int} {n : Nat} (hn : n < 42) (h : tagOk T n = false) : goodT T = false := by
  unfold goodT
  rw [List.all_eq_false]
  exact ⟨n, List.mem_range.2 hn, by rw [h]; decide⟩
theorem goodT_yes {T : Nat → Int} (h : ∀ n, n < 42 → tagOk T n = true) : goodT T = true := List.all_eq_true.2 fun n hn => h n (List.mem_range.1 hn)
structure SD (w : World) (g : Nat) (T : Nat → Int) (W : World) : Prop where
  tg : TgB W g T
  bl : Below w.heap.size w W
  sz : w.heap.size ≤ W.heap.size
theorem SD.touch {w W W' : World} {g b : Nat} {T : Nat → Int} (h : SD w g T W) (ht : Touch b W W') (h0 : w.heap.size ≤ b) (hg : g ≠ b) : SD w g T W' := ⟨FB.touch h.tg ht hg, h.bl.trans (ht.below h0 h.sz), Nat.le_trans h.sz ht.size⟩
theorem SD.up {w W W' : World} {g : Nat} {T : Nat → Int} (h : SD w g T W) (hb : Below W.heap.size W W') : SD w g T W' := ⟨h.tg.up hb, h.bl.trans (hb.mono h.sz), Nat.le_trans h.sz hb.size⟩
set_option maxHeartbeats 4000000 in
theorem good_any (w : World) (g : Nat) (T : Nat → Int) (hT : TgB w g T) : Calls Try.prog 64 #[.pointer (some ⟨g, 0, none⟩)] w (RetV w (.bool (goodT T))) := by
  have HT := Lib.hid hT
  clear hT
  go_enter Try.func64, Try.ntmps64
  go_wp2_with fail
  go_loopw [7] (fun i wr => ∃ k : Nat, k ≤ 42 ∧ i = .int .i64 k ∧ (∀ n, n < k → tagOk T n = true) ∧ SD w g T wr) (fun i _ => (42 - intOf i).toNat)
  case atStart => exact ⟨0, by omega, rfl, (fun n hn => absurd hn (by omega)), HT.out, Below.refl _ _, Nat.le_refl _⟩
  case round =>
    clear HT
    obtain ⟨k, hk, rfl, hall, hS⟩ := hrel
    have hk0 : (0 : Int) ≤ k := by omega
    by_cases hlt : k < 42
    · have hlt' : (k : Int) < 42 := by omega
      have HKT := Lib.hid hlt
      have HALL := Lib.hid hall
      have HS := Lib.hid hS
      clear hlt hall hS
      go_upto_region 3 with (fail)
      refine wp_region_held_drew (S := fun W => SD w g T W) (by kernel_rfl) (HS.out.up (below_drewN' (Below.refl _ _) 1)) (fun hHeld => ?_)
      refine wpAnyH_take (i := 0) (oi := _) (v := .int .i64 k) rfl (by kernel_rfl) (by kernel_rfl) (by kernel_rfl) (fun _ _ _ h => h) (Or.inl ⟨by rfl, ?_⟩) (by assumption) ?_
      · intro w hSw
        go_simp
      try simp only [Act.put, List.setIfInBounds_toArray, List.set_cons_zero, List.set_cons_succ]
      refine wpAnyH_take (i := 1) (oi := _) (v := .pointer (some ⟨g, 0, none⟩)) rfl (by kernel_rfl) (by kernel_rfl) (by kernel_rfl) (fun _ _ _ h => h) (Or.inl ⟨by rfl, ?_⟩) (by assumption) ?_
      · intro w hSw
        go_simp
      try simp only [Act.put, List.setIfInBounds_toArray, List.set_cons_zero, List.set_cons_succ]
      refine wpAnyH_take (i := 2) (oi := _) (v := .pointer (some ⟨g, k * 3, none⟩)) rfl (by kernel_rfl) (by kernel_rfl) (by kernel_rfl) (fun _ _ _ h => h) (Or.inl ⟨by rfl, ?_⟩) (by assumption) ?_
      · intro w hSw
        go_simp
      try simp only [Act.put, List.setIfInBounds_toArray, List.set_cons_zero, List.set_cons_succ]
      refine wpAnyH_take (i := 3) (oi := _) (v := .agg #[.int .i64 (T (k * 3)), .int .i64 (T (k * 3 + 1)), .int .i64 (T (k * 3 + 2))]) rfl (by kernel_rfl) (by kernel_rfl) (by kernel_rfl) (fun _ _ _ h => h) (Or.inl ⟨by rfl, ?_⟩) (by assumption) ?_
      · intro w hSw
        obtain ⟨u0, u1, u2⟩ := hSw
        have x0 := u0.cell (k * 3) (by have := HKT.out; omega)
        have x1 := u0.cell (k * 3 + 1) (by have := HKT.out; omega)
        have x2 := u0.cell (k * 3 + 2) (by have := HKT.out; omega)
        clear u0 u1 u2
        go_simp
      try simp only [Act.put, List.setIfInBounds_toArray, List.set_cons_zero, List.set_cons_succ]
      refine wpAnyH_ready (rs := [4]) (by kernel_rfl) (by simp) ?_
      refine AllReadyH.cons rfl (fun K hK => ?_) AllReadyH.nil
      refine step_alloc_seg (by rfl) 58 rfl 3 (fun _ => .int .i64 0) zeroTag ?_
      intro w4 h4 hB4 hs4
      have HS4 := Lib.hid (hHeld.up hB4)
      have HNb := Lib.hid (show w.heap.size ≤ wr.drew.heap.size ∧ g ≠ wr.drew.heap.size from ⟨hHeld.sz, Nat.ne_of_lt (FB.lt hHeld.tg)⟩)
      have H4 := Lib.hid h4
      have HB4 := Lib.hid hB4
      generalize wr.drew.heap.size = b at *
      clear h4 hB4 hs4 hHeld
      refine hK.out _ _ HS4.out (fun hHeld => ?_)
      clear hK K
      try simp only [Act.put, List.setIfInBounds_toArray, List.set_cons_zero, List.set_cons_succ]
      refine wpAnyH_take (i := 5) (oi := _) (v := .int .i64 k) rfl (by kernel_rfl) (by kernel_rfl) (by kernel_rfl) (fun _ _ _ h => h) (Or.inl ⟨by rfl, ?_⟩) (by assumption) ?_
      · intro w hSw
        go_simp
      try simp only [Act.put, List.setIfInBounds_toArray, List.set_cons_zero, List.set_cons_succ]
      clear hHeld
      refine wpAnyH_ready (rs := [6]) (by kernel_rfl) (by simp) ?_
      refine AllReadyH.cons rfl (fun K hK => ?_) AllReadyH.nil
      refine step_store_seg (by rfl) 58 _ _ rfl b 0 58 3 3 _ (tag3 T k) rfl (congrArg Value.agg (tag3_arr T k)) H4.out (by omega) sizeTag (fun _ _ => rfl) ?_
      intro w6 h6 hT6 hs6
      have HS6 := Lib.hid (HS4.out.touch hT6 HNb.out.1 HNb.out.2)
      have H6 := Lib.hid (show FB w6 b 58 3 (tag3 T k) from h6.congr fun q hq => by unfold updR; rw [if_pos (by omega), Nat.sub_zero])
      clear h6 hT6 hs6 HS4 H4
      refine hK.out _ _ HS6.out (fun hHeld => ?_)
      clear hK K
      try simp only [Act.put, List.setIfInBounds_toArray, List.set_cons_zero, List.set_cons_succ]
      refine wpAnyH_done (by kernel_rfl) ?_ _
      clear hHeld
      have x0 : w6.cell? ⟨b, 0, none⟩ = some (.int .i64 (T (k * 3))) := H6.out.cell 0 (by decide)
      have x1 : w6.cell? ⟨b, 1, none⟩ = some (.int .i64 (T (k * 3 + 1))) := H6.out.cell 1 (by decide)
      have x2 : w6.cell? ⟨b, 2, none⟩ = some (.int .i64 (T (k * 3 + 2))) := H6.out.cell 2 (by decide)
      have hk42 : (k : Int) < 42 := hlt'
      go_wp2_with fail
      go_at_call 79
      refine (good1_any _ _ _ _ _).mono ?_
      rintro e w7 ⟨rfl, hB⟩
      have HS7 := Lib.hid (HS6.out.up hB)
      clear hB HS6 x0 x1 x2 H6
      have e1 : good1 (T (k * 3)) (T (k * 3 + 1)) (T (k * 3 + 2)) (decide ((12 : Int) ≤ 2 + k)) = tagOk T k := rfl
      rw [e1]
      clear e1
      cases ht : tagOk T k
      · have HG := Lib.hid (goodT_no HKT.out ht)
        go_wp2_with fail
        go_ret
        exact ⟨ret_bool (by rw [HG.out]), HS7.out.bl⟩
      · have HTK := Lib.hid ht
        clear ht
        go_wp2_with fail
        go_roundw
        case rel => exact ⟨k + 1, by have := HKT.out; omega, by go_num, (fun n hn => (Nat.lt_or_ge n k).elim (fun h => HALL.out n h) fun h => (show n = k by omega) ▸ HTK.out), HS7.out⟩
        case measure => simp [intOf]; omega
    · obtain rfl : k = 42 := by omega
      have HG := Lib.hid (goodT_yes hall)
      have HSE := Lib.hid hS
      clear hall hS
      go_wp2_with fail
      go_ret
      exact ⟨ret_bool (by rw [HG.out]), HSE.out.bl⟩
end Go.Proofs.Ytejcijbohnlbgaa
