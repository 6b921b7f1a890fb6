/- Package code: Decode of many bytes; of all. -/
import Derived.Test.YtlodoinmippebaaDoorCodeD3
namespace Go.Proofs.YtlodoinmippebaaDoor
open Go.ChangeShapes Go.WideShapes Go.ChangeAt Go.RowKit
open Cod Bits
set_option linter.unusedVariables false
set_option linter.unusedSimpArgs false

set_option maxRecDepth 100000 in
set_option maxHeartbeats 4000000 in
theorem decode_b (w : World) (A : Option Addr) (n c : Nat) (L : List Int) (hl : Left w w.heap.size A n c L) (hn : n ≤ 281474976710656) (ht : Tabs w) (hk : 4096 < n / 8) :
    Calls Tryd.prog 34 #[.slice A n c] w (Decoded w L) := by
  have hmf : ∀ (fn : Fn) (first cap : Array Value) (w : World), (Instr.makeFunc fn first cap).run Tryd.prog w = .ok (.func fn first cap) w := fun _ _ _ _ => rfl
  have hmk : ∀ w, (Instr.makeSlice 31 (.int .i64 0) (.int .i64 4096)).run Tryd.prog w = .ok (.slice (some ⟨w.heap.size, 0, none⟩) 0 4096) (w.alloc (.cells (madeCells (ins8 0 false false 0 0 0 0 0) (4096 * 8)) 71)) := fun w => make_ins 4096 (Nat.le_refl _) w
  have hki : 4096 < (n : Int) / 8 := by omega
  have HL := Lib.hid hl
  have HT := Lib.hid ht
  clear hl ht
  go_enter_defers Tryd.func34, Tryd.ntmps34
  go_wp2_with fail
  have HDS := Lib.hid (ds_start w A n c L HL.out HT.out 4096 (Nat.le_refl _))
  clear hmk hmf
  go_loopw [14] (fun _ wr => ∃ done A n c L' u bg v, DS w L done A n c L' u bg v wr) (fun _ wr => leftAt (w.heap.size + 1 + 1 + 1) wr)
  case atStart => exact ⟨_, _, _, _, _, _, _, _, HDS.out⟩
  case round =>
    clear HDS
    obtain ⟨done, A', n', c', L', u, bg, v, hds⟩ := hrel
    have HD := Lib.hid hds
    clear hds
    go_wp2_with fail
    go_at_call 64
    refine (more_any _ _ _ _ _ _ _ HD.out.rd).mono ?_
    rintro e w1 ⟨rfl, rfl⟩
    have hd1 := ds_begun HD.out
    generalize (wr.setCell ⟨w.heap.size + 1 + 1 + 1, 2, none⟩ (.int .i64 (u : Int))) = W1 at *
    obtain ⟨A2, c2, rfl⟩ := hd1.own.form
    have HD1 := Lib.hid hd1
    obtain ⟨l0, k0⟩ : W1.cell? ⟨w.heap.size, 0, none⟩ = some (.slice A2 done.length c2) ∧ W1.frozen? ⟨w.heap.size, 0, none⟩ = false := ⟨hd1.list.cell 0, hd1.list.frozen 0⟩
    obtain ⟨l1, k1⟩ : W1.cell? ⟨w.heap.size + 1, 0, none⟩ = some (.int .i64 0) ∧ W1.frozen? ⟨w.heap.size + 1, 0, none⟩ = false := ⟨hd1.at_.cell 0, hd1.at_.frozen 0⟩
    obtain ⟨l2, k2⟩ : W1.cell? ⟨w.heap.size + 1 + 1, 0, none⟩ = some (.int .i64 0) ∧ W1.frozen? ⟨w.heap.size + 1 + 1, 0, none⟩ = false := ⟨hd1.err.cell 0, hd1.err.frozen 0⟩
    clear hd1
    by_cases hn' : 0 < n'
    · have hdt : decide (0 < n') = true := decide_eq_true hn'
      rw [hdt]
      by_cases h96 : done.length = 4096
      · have hd96 : decide ((done.length : Int) < 4096) = false := decide_eq_false (by omega)
        have heq := HD1.out.eq
        rw [h96, D_many (by rw [HD1.out.left.1]; omega)] at heq
        have hDL : D L 0 0 = (25, u, []) := heq
        go_wp2_with fail
        go_at_call 65
        refine (need_no _ _).mono ?_
        rintro e w2 ⟨rfl, rfl⟩
        go_wp2_with fail
        exact dec_panic w _ L _ _ _ _ _ u _ _ _ _ _ rfl rfl rfl HD1.out.list HD1.out.at_ HD1.out.err HD1.out.rd HD1.out.below (by decide) rfl hDL
      have hd96 : decide ((done.length : Int) < 4096) = true := decide_eq_true (by have := HD1.out.le; omega)
      go_wp2_with fail
      go_at_call 65
      refine (need_yes _ _).mono ?_
      rintro e w2 ⟨rfl, rfl⟩
      go_wp2_with fail
      have hul := HD1.out.ul
      have HINS := Lib.hid (ins_any (w.heap.size + 1 + 1 + 1) w.heap.size A' n' c' L' u u W1.drew HD1.out.rd (by omega) hn' HD1.out.left ⟨by omega, by have := HD1.out.le; omega⟩ ⟨HD1.out.tabs.lt, HD1.out.tabs.sizes, HD1.out.tabs.joins, HD1.out.tabs.jumps⟩ (by have := HD1.out.base4; omega))
      generalize hI : (insD L').2.1 = I at HINS
      have HI := Lib.hid hI
      clear hI
      obtain ⟨iop, inar, ireg, isize, idst, isrc, ioff, iimm⟩ := I
      simp only [Ins.arr] at HINS
      have hle := HD1.out.le
      refine wp_region_last (n := 4) (S := fun w' => w'.cell? ⟨w.heap.size, 0, none⟩ = some (.slice A2 done.length c2)) (by kernel_rfl) (by kernel_rfl) (by kernel_rfl) (by kernel_rfl) rfl l0 (fun hHeld => ?_)
      refine wpAnyH_take (i := 0) (oi := _) (v := .slice A2 done.length c2) rfl (by kernel_rfl) (by kernel_rfl) (by kernel_rfl) (fun cc aa ww hh => bodyD_put cc aa _ ww hh) (Or.inl ⟨by rfl, ?_⟩) hHeld ?_
      · intro w hSw
        go_simp
      try simp only [Act.put, List.setIfInBounds_toArray, List.set_cons_zero, List.set_cons_succ]
      clear hHeld
      refine wpAnyH_ready (rs := [1]) (by kernel_rfl) (by simp) ?_
      refine AllReadyH.cons rfl (fun K hK => ?_) AllReadyH.nil
      go_simp
      go_at_call 66
      refine HINS.out.mono ?_
      rintro e w2 ⟨rfl, hK2, A3, n3, c3, u3, hrd3, hz⟩
      have hbs := HD1.out.below.size
      have b0 := hK2.blk HD1.out.list.drew (by omega)
      have b1 := hK2.blk HD1.out.at_.drew (by omega)
      have b2 := hK2.blk HD1.out.err.drew (by omega)
      have hB2 := Below.andBut (below_drew1 HD1.out.below) hK2 (by omega) hbs
      by_cases hE : (insD L').1 = 0
      · rw [insEnd_zero hE]
        obtain ⟨hu3, hlf3⟩ := hz hE
        have htab2 := hK2.tabs ⟨HD1.out.tabs.lt, HD1.out.tabs.sizes, HD1.out.tabs.joins, HD1.out.tabs.jumps⟩ (by have := HD1.out.base4; omega)
        have how2 : OwnI w2 (w.heap.size + 1 + 1 + 1 + 1) (.slice A2 done.length c2) done := ownI_keep HD1.out.own (Nat.le_refl _) (fun bb hb1 hb2 => hK2.block bb hb2 (by omega))
        have hw2s : w.heap.size + 1 + 1 + 1 + 1 ≤ w2.heap.size := by have := hrd3.lt; omega
        go_wp2_with fail
        refine hK.out _ _ (b0.cell 0) (fun hHeld => ?_)
        clear hK K hHeld
        try simp only [Act.put, List.setIfInBounds_toArray, List.set_cons_zero, List.set_cons_succ]
        refine wpAnyH_ready (rs := [2]) (by kernel_rfl) (by simp) ?_
        refine AllReadyH.cons rfl (fun K hK => ?_) AllReadyH.nil
        go_simp
        refine hK.out _ _ ((b0.alloc _).cell 0) (fun hHeld => ?_)
        clear hK K hHeld
        try simp only [Act.put, List.setIfInBounds_toArray, List.set_cons_zero, List.set_cons_succ]
        have hsrc : Blk (w2.alloc (.cells #[.int .i64 iop, .bool inar, .bool ireg, .int .i64 isize, .int .i64 idst, .int .i64 isrc, .int .i64 ioff, .int .i64 iimm] 71)) w2.heap.size 71 (Ins.arr ⟨iop, inar, ireg, isize, idst, isrc, ioff, iimm⟩) := Blk.new w2 _ _
        have d0 := b0.alloc (.cells #[.int .i64 iop, .bool inar, .bool ireg, .int .i64 isize, .int .i64 idst, .int .i64 isrc, .int .i64 ioff, .int .i64 iimm] 71)
        have d1 := b1.alloc (.cells #[.int .i64 iop, .bool inar, .bool ireg, .int .i64 isize, .int .i64 idst, .int .i64 isrc, .int .i64 ioff, .int .i64 iimm] 71)
        have d2 := b2.alloc (.cells #[.int .i64 iop, .bool inar, .bool ireg, .int .i64 isize, .int .i64 idst, .int .i64 isrc, .int .i64 ioff, .int .i64 iimm] 71)
        have d3 := hrd3.alloc (.cells #[.int .i64 iop, .bool inar, .bool ireg, .int .i64 isize, .int .i64 idst, .int .i64 isrc, .int .i64 ioff, .int .i64 iimm] 71)
        have hk3 := below_box w2 (.cells #[.int .i64 iop, .bool inar, .bool ireg, .int .i64 isize, .int .i64 idst, .int .i64 isrc, .int .i64 ioff, .int .i64 iimm] 71)
        have hw3s : w.heap.size + 1 + 1 + 1 + 1 ≤ (w2.alloc (.cells #[.int .i64 iop, .bool inar, .bool ireg, .int .i64 isize, .int .i64 idst, .int .i64 isrc, .int .i64 ioff, .int .i64 iimm] 71)).heap.size := by simp; omega
        have how3 := ownI_keep how2 (Nat.le_refl _) (fun bb _ hb2 => hk3.block bb hb2)
        have hlf := hlf3.keep (hk3.mono (by omega))
        have htb := htab2.keep hk3 (by have := HD1.out.base4; omega)
        have hB3 := hB2.trans (hk3.mono (by omega))
        clear b0 b1 b2 hrd3 hk3 how2 hlf3 htab2 hB2 hK2 hz
        generalize (w2.alloc (.cells #[.int .i64 iop, .bool inar, .bool ireg, .int .i64 isize, .int .i64 idst, .int .i64 isrc, .int .i64 ioff, .int .i64 iimm] 71)) = w3 at *
        generalize w2.heap.size = gs at *
        refine wpAnyH_ready (rs := [3]) (by kernel_rfl) (by simp) ?_
        refine AllReadyH.cons rfl (fun K hK => ?_) AllReadyH.nil
        refine append_ins rfl (.tmp 19) (.tmp 21) rfl (w.heap.size + 1 + 1 + 1 + 1) (.slice A2 done.length c2) done w3 rfl how3 ⟨iop, inar, ireg, isize, idst, isrc, ioff, iimm⟩ gs 1 _ rfl hsrc hle hw3s ?_
        intro v' w4 how4 hB4
        have e0 := d0.below hB4 (by omega)
        have e1 := d1.below hB4 (by omega)
        have e2 := d2.below hB4 (by omega)
        have e3 := d3.below hB4 (by omega)
        have hB5 := hB4.mono (show w.heap.size ≤ w.heap.size + 1 + 1 + 1 + 1 by omega)
        refine hK.out _ _ (e0.cell 0) (fun hHeld => ?_)
        clear hK K hHeld
        try simp only [Act.put, List.setIfInBounds_toArray, List.set_cons_zero, List.set_cons_succ]
        refine wpAnyH_done (by kernel_rfl) ?_ _
        obtain ⟨A4, c4, rfl⟩ := how4.form
        have HDS := Lib.hid (ds_round e0 e1 e2 e3 (hlf.keep hB5) how4 (hB3.trans hB5) (htb.keep hB5 HD1.out.base4) HD1.out.base4 hle h96 hul hE HI.out (by rw [HD1.out.left.1]; omega) hu3 HD1.out.eq)
        have m0 : w4.cell? ⟨w.heap.size, 0, none⟩ = some (.slice A2 done.length c2) := e0.cell 0
        have m1 : w4.frozen? ⟨w.heap.size, 0, none⟩ = false := e0.frozen 0
        clear d0 d1 d2 d3 how3 hlf htb hB3 hB4 hB5 e0 e1 e2 e3 how4 hsrc
        unfold Ahead
        refine wpOp_step rfl fun K' hK' => ?_
        go_simp
        refine hK' _ _ ?_
        have hlen : (done ++ [(⟨iop, inar, ireg, isize, idst, isrc, ioff, iimm⟩ : Ins)]).length = done.length + 1 := by simp
        rw [hlen] at HDS
        clear hK'
        simp only [Exit.inBlock]
        go_roundw
        case rel => exact ⟨_, _, _, _, _, _, _, _, _, ⟨_, _, _, _, _, _, _, _, HDS.out⟩, rfl⟩
        case measure =>
          have g1 : leftAt (w.heap.size + 1 + 1 + 1) wr = n' := by unfold leftAt; rw [HD.out.rd.cell 0]; rfl
          have g2 : leftAt (w.heap.size + 1 + 1 + 1) (w4.setCell ⟨w.heap.size, 0, none⟩ (.slice A4 (done.length + 1) c4)) = n3 := by unfold leftAt; rw [HDS.out.rd.cell 0]; rfl
          have g3 := HDS.out.left.1
          have g4 := insD_len L' hE
          have g5 := HD.out.left.1
          rw [List.length_drop] at g3
          rw [g1, g2]
          omega
      · rw [insEnd_pos hE]
        have hDL := D_err2 HD1.out.eq (by rw [HD1.out.left.1]; omega) h96 hE
        exact dec_panic w w2 L _ _ _ _ _ u _ _ _ _ _ rfl rfl rfl b0 b1 b2 hrd3 hB2 hE rfl hDL
    · have hdf : decide (0 < n') = false := decide_eq_false hn'
      rw [hdf]
      go_wp2_with fail
      have hde := DE.set (v := .slice A2 done.length c2) HD1.out.list HD1.out.at_ HD1.out.err HD1.out.own HD1.out.below 0 0
      generalize (((W1.setCell ⟨w.heap.size, 0, none⟩ (.slice A2 done.length c2)).setCell ⟨w.heap.size + 1, 0, none⟩ (.int .i64 0)).setCell ⟨w.heap.size + 1 + 1, 0, none⟩ (.int .i64 0)) = W2 at *
      have hL0 : L' = [] := List.length_eq_zero_iff.1 (by have := HD1.out.left.1; omega)
      have heq := HD1.out.eq
      rw [hL0, D_nil] at heq
      have hDL : D L 0 0 = (0, 0, done) := by rw [heq]; simp [joinD]
      refine leaves_cons (f := 62) (args := #[.pointer (some ⟨w.heap.size + 1 + 1, 0, none⟩), .pointer (some ⟨w.heap.size + 1 + 1 + 1, 0, none⟩), .pointer (some ⟨w.heap.size, 0, none⟩), .pointer (some ⟨w.heap.size + 1, 0, none⟩)]) (by simp) (by simp [go_sem]) ?_
      refine (catch_idle (w.heap.size + 1 + 1) w.heap.size (w.heap.size + 1) (w.heap.size + 1 + 1 + 1) 0 _ (hde.err.cell 0) (hde.err.frozen 0)).mono ?_
      rintro e u' w'' ⟨rfl, rfl, rfl⟩
      have hd2 := hde.seterr 0
      generalize (W2.setCell ⟨w.heap.size + 1 + 1, 0, none⟩ (.int .i64 0)) = W3 at *
      have r0 : W3.cell? ⟨w.heap.size, 0, none⟩ = some (.slice A2 done.length c2) := hd2.list.cell 0
      have r1 : W3.cell? ⟨w.heap.size + 1, 0, none⟩ = some (.int .i64 0) := hd2.at_.cell 0
      have r2 : W3.cell? ⟨w.heap.size + 1 + 1, 0, none⟩ = some (.int .i64 0) := hd2.err.cell 0
      have hfin : Decoded w L (.returned (.tuple #[.slice A2 done.length c2, .int .i64 0, .int .i64 0])) W3 := ⟨.slice A2 done.length c2, by rw [hDL]; rfl, by rw [hDL]; exact hd2.own, hd2.below⟩
      have HFIN := Lib.hid hfin
      clear hfin hd2 hde l0 k0 l1 k1 l2 k2 heq hDL hL0
      simp [Leaves, settle, results, Tryd.results34, go_sem, r0, r1, r2]
      exact HFIN.out
theorem decode_any (w : World) (A : Option Addr) (n c : Nat) (L : List Int) (hl : Left w w.heap.size A n c L) (hn : n ≤ 281474976710656) (ht : Tabs w) :
    Calls Tryd.prog 34 #[.slice A n c] w (Decoded w L) := by
  by_cases h : n / 8 ≤ 4096
  · exact decode_a w A n c L hl hn ht h
  · exact decode_b w A n c L hl hn ht (by omega)
end Go.Proofs.YtlodoinmippebaaDoor
