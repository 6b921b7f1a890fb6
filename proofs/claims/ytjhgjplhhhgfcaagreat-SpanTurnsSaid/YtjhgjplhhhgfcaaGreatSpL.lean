/- Contracts of package span: an arithmetic of corners, and the closure that holds it. -/
import Derived.Test.YtjhgjplhhhgfcaaGreatSpK
namespace Go.Proofs.YtjhgjplhhhgfcaaGreat
open Go.ChangeShapes Go.WideShapes Go.ChangeAt Go.RowKit
open Spn
namespace Spc
set_option linter.unusedVariables false
set_option maxRecDepth 100000
def cx (al ah : Int) (k : Nat) : Int := if k < 2 then al else ah
def cy (bl bh : Int) (k : Nat) : Int := if k % 2 = 0 then bl else bh
/-- the least and the greatest of the first k corners -/
def Part (f : Int → Int → Option Int) (al ah bl bh : Int) : Nat → Int → Int → Prop
  | 0, lo, hi => lo = 9223372036854775807 ∧ hi = -9223372036854775808
  | k + 1, lo, hi => ∃ l h v, Part f al ah bl bh k l h ∧ f (cx al ah k) (cy bl bh k) = some v ∧ lo = min l v ∧ hi = max h v
theorem part_end {f : Int → Int → Option Int} {al ah bl bh lo hi : Int} (hr : ∀ a b v, (a = al ∨ a = ah) → (b = bl ∨ b = bh) → f a b = some v → I64 v) (h : Part f al ah bl bh 4 lo hi) : cornX f ⟨al, ah⟩ ⟨bl, bh⟩ = some ⟨lo, hi⟩ := by
  obtain ⟨l3, h3, v3, ⟨l2, h2, v2, ⟨l1, h1, v1, ⟨l0, h0, v0, ⟨rfl, rfl⟩, e0, rfl, rfl⟩, e1, rfl, rfl⟩, e2, rfl, rfl⟩, e3, rfl, rfl⟩ := h
  replace e0 : f al bl = some v0 := e0
  replace e1 : f al bh = some v1 := e1
  replace e2 : f ah bl = some v2 := e2
  replace e3 : f ah bh = some v3 := e3
  have r0 := hr _ _ _ (.inl rfl) (.inl rfl) e0
  unfold cornX
  dsimp only
  rw [e0, e1, e2, e3]
  unfold I64 LEAST TOP at r0
  simp only [Option.some.injEq, E.mk.injEq]
  omega
theorem corn_none {f : Int → Int → Option Int} {al ah bl bh : Int} {k : Nat} (hk : k < 4) (h : f (cx al ah k) (cy bl bh k) = none) : cornX f ⟨al, ah⟩ ⟨bl, bh⟩ = none := by
  unfold cornX
  dsimp only
  rcases (by omega : k = 0 ∨ k = 1 ∨ k = 2 ∨ k = 3) with rfl | rfl | rfl | rfl
  · rw [show f al bl = none from h]
  · rw [show f al bh = none from h]; cases f al bl <;> rfl
  · rw [show f ah bl = none from h]; cases f al bl <;> cases f al bh <;> rfl
  · rw [show f ah bh = none from h]; cases f al bl <;> cases f al bh <;> cases f ah bl <;> rfl
theorem cells1 {w : World} {g : Nat} {t : TypeId} {a : Value} (h : Blk w g t #[a]) : w.cell? ⟨g, 0, none⟩ = some a ∧ g < w.heap.size := by
  refine ⟨?_, h.lt⟩; rw [h.cell]; rfl
/-- the boxes of the loop -/
def CornW (w0 : World) (K g : Nat) (al ah bl bh lo hi : Int) (w : World) : Prop :=
  Blk w w0.heap.size 30 #[.int .i64 al, .int .i64 ah] ∧ Blk w (w0.heap.size + 1) 30 #[.int .i64 bl, .int .i64 bh] ∧ Blk w (w0.heap.size + 2) 30 zE ∧
  Blk w (w0.heap.size + 3) 30 #[.int .i64 lo, .int .i64 hi] ∧ Blk w g 118 #[.func (.func K) #[] #[]] ∧ Below w0.heap.size w0 w
theorem CornW.up {w0 w w' : World} {K g : Nat} {al ah bl bh lo hi : Int} (h : CornW w0 K g al ah bl bh lo hi w) (hb : Below w.heap.size w w') : CornW w0 K g al ah bl bh lo hi w' :=
  ⟨h.1.up hb, h.2.1.up hb, h.2.2.1.up hb, h.2.2.2.1.up hb, h.2.2.2.2.1.up hb, nx h.2.2.2.2.2 hb⟩
theorem CornW.set {w0 w : World} {K g : Nat} {al ah bl bh lo hi : Int} (h : CornW w0 K g al ah bl bh lo hi w) (hg : g < w0.heap.size) (p q : Int) : CornW w0 K g al ah bl bh p q ((w.setCell ⟨w0.heap.size + 3, 0, none⟩ (.int .i64 p)).setCell ⟨w0.heap.size + 3, 1, none⟩ (.int .i64 q)) :=
  ⟨far2 h.1 (by omega) _ _, far2 h.2.1 (by omega) _ _, far2 h.2.2.1 (by omega) _ _, set2 h.2.2.2.1 _ _, far2 h.2.2.2.2.1 (by omega) _ _, Below.set2 h.2.2.2.2.2 (by omega) _ _⟩
set_option maxHeartbeats 4000000 in
theorem corner_any (K : FuncId) (f : Int → Int → Option Int) (al ah bl bh : Int) (hen : ∀ (a : Array Value) (W : World), (callFunc K a).run Tryz.prog W = .ok (.enter K a) W)
    (hf : ∀ a b W, (a = al ∨ a = ah) → (b = bl ∨ b = bh) → Calls Tryz.prog K #[.int .i64 a, .int .i64 b] W (RetX W (f a b)))
    (hr : ∀ a b v, (a = al ∨ a = ah) → (b = bl ∨ b = bh) → f a b = some v → I64 v) (g : Nat) (w : World) (hcap : Blk w g 118 #[.func (.func K) #[] #[]]) :
    Calls Tryz.prog 117 #[.agg #[.int .i64 al, .int .i64 ah], .agg #[.int .i64 bl, .int .i64 bh], .pointer (some ⟨g, 0, none⟩)] w (RetJ w (cornX f ⟨al, ah⟩ ⟨bl, bh⟩)) := by
  have hg := hcap.lt
  have HF := Lib.hid hf
  have HR := Lib.hid hr
  have H0 : CornW w K g al ah bl bh 9223372036854775807 (-9223372036854775808) ((((w.alloc (.cells #[.int .i64 al, .int .i64 ah] 30)).alloc (.cells #[.int .i64 bl, .int .i64 bh] 30)).alloc (.cells zE 30)).alloc (.cells #[.int .i64 9223372036854775807, .int .i64 (-9223372036854775808)] 30)) :=
    ⟨(((Blk.new w _ _).alloc _).alloc _).alloc _, ((new2 w _ _ _).alloc _).alloc _, (new3 w _ _ _ _).alloc _, new4 w _ _ _ _ _, (((hcap.alloc _).alloc _).alloc _).alloc _, box4 w _ _ _ _⟩
  have HH := Lib.hid H0
  clear hf hr hcap H0
  go_enter Tryz.func117, Tryz.ntmps117
  go_wp2_with fail
  go_loopw [34] (fun i wr => ∃ k : Nat, ∃ lo hi : Int, k ≤ 4 ∧ i = .int .i64 k ∧ Part f al ah bl bh k lo hi ∧ CornW w K g al ah bl bh lo hi wr) (fun i _ => (4 - intOf i).toNat)
  case atStart => exact ⟨0, _, _, by omega, rfl, ⟨rfl, rfl⟩, HH.out⟩
  case round =>
    clear HH
    obtain ⟨k, lo, hi, hk, rfl, hP, hW⟩ := hrel
    have HP := Lib.hid hP
    have HW := Lib.hid hW
    obtain ⟨a0, a1, -, -, a4⟩ := cells2 hW.1
    obtain ⟨b0, b1, -, -, b4⟩ := cells2 hW.2.1
    obtain ⟨c0, c1, c2, c3, c4⟩ := cells2 hW.2.2.1
    obtain ⟨d0, d1, d2, d3, d4⟩ := cells2 hW.2.2.2.1
    obtain ⟨e0, e1⟩ := cells1 hW.2.2.2.2.1
    clear hP hW
    rcases (by omega : k = 4 ∨ k = 0 ∨ k = 1 ∨ k = 2 ∨ k = 3) with rfl | hk4
    · go_wp2_with fail
      refine bodyPost_ret (v := .tuple #[.agg #[.int .i64 _, .int .i64 _], .bool _]) (results_cell_tmp Tryz.results117 _ _ (w.heap.size + 2) 30 #[.int .i64 _, .int .i64 _] (0, 0) _ _ rfl rfl (set2 HW.out.2.2.1 _ _) Tryz.underlying30 rfl (by kernel_rfl)) rfl ?_
      rw [part_end HR.out HP.out]
      exact retJ_some (Below.set2 HW.out.2.2.2.2.2 (by omega) _ _) rfl rfl
    · rcases hk4 with rfl | rfl | rfl | rfl
      · have hix : ∀ W : World, (Instr.index 120 (.agg #[.int .i64 al, .int .i64 bl, .int .i64 al, .int .i64 bh, .int .i64 ah, .int .i64 bl, .int .i64 ah, .int .i64 bh]) (.int .i64 0)).run Tryz.prog W = .ok (.agg #[.int .i64 al, .int .i64 bl]) W := fun _ => by kernel_rfl
        have HC := Lib.hid (HF.out al bl (wr.alloc (.cells #[.int .i64 al, .int .i64 bl] 119)) (by simp) (by simp))
        have HW1 := Lib.hid (HW.out.up (below_box' wr (.cells #[.int .i64 al, .int .i64 bl] 119)))
        cases hfo : f al bl with
        | none =>
          rw [hfo] at HC
          have HN := Lib.hid (corn_none (f := f) (al := al) (ah := ah) (bl := bl) (bh := bh) (k := 0) (by decide) hfo)
          clear hfo
          go_wp2_with fail
          refine HC.out.mono ?_
          rintro e w1 ⟨v, rfl, -, hB⟩
          have HW2 := Lib.hid (HW1.out.up hB)
          clear hB HW1 HW HC hix a0 a1 a4 b0 b1 b4 c0 c1 c2 c3 c4 d0 d1 d2 d3 d4 e0 e1
          obtain ⟨c0, c1, c2, c3, c4⟩ := cells2 HW2.out.2.2.1
          go_wp2_with fail
          refine bodyPost_ret (v := .tuple #[.agg #[.int .i64 _, .int .i64 _], .bool _]) (results_cell_tmp Tryz.results117 _ _ (w.heap.size + 2) 30 #[.int .i64 _, .int .i64 _] (0, 0) _ _ rfl rfl (set2 HW2.out.2.2.1 _ _) Tryz.underlying30 rfl (by kernel_rfl)) rfl ?_
          rw [HN.out]
          exact retJ_none (Below.set2 HW2.out.2.2.2.2.2 (by omega) _ _)
        | some u =>
          rw [hfo] at HC
          have HE := Lib.hid (show f (cx al ah 0) (cy bl bh 0) = some u from hfo)
          clear hfo
          go_wp2_with fail
          refine HC.out.mono ?_
          rintro e w1 ⟨v, rfl, hv, hB⟩
          obtain rfl : v = u := hv u rfl
          have HW2 := Lib.hid (HW1.out.up hB)
          clear hB HW1 HW HC hix hv a0 a1 a4 b0 b1 b4 c0 c1 c2 c3 c4 d0 d1 d2 d3 d4 e0 e1
          obtain ⟨d0, d1, d2, d3, d4⟩ := cells2 HW2.out.2.2.2.1
          go_wp2_with fail
          all_goals
            go_roundw
            case rel => exact ⟨1, _, _, by omega, rfl, ⟨lo, hi, v, HP.out, HE.out, by omega, by omega⟩, HW2.out.set hg _ _⟩
            case measure => simp [intOf]
      · have hix : ∀ W : World, (Instr.index 120 (.agg #[.int .i64 al, .int .i64 bl, .int .i64 al, .int .i64 bh, .int .i64 ah, .int .i64 bl, .int .i64 ah, .int .i64 bh]) (.int .i64 1)).run Tryz.prog W = .ok (.agg #[.int .i64 al, .int .i64 bh]) W := fun _ => by kernel_rfl
        have HC := Lib.hid (HF.out al bh (wr.alloc (.cells #[.int .i64 al, .int .i64 bh] 119)) (by simp) (by simp))
        have HW1 := Lib.hid (HW.out.up (below_box' wr (.cells #[.int .i64 al, .int .i64 bh] 119)))
        cases hfo : f al bh with
        | none =>
          rw [hfo] at HC
          have HN := Lib.hid (corn_none (f := f) (al := al) (ah := ah) (bl := bl) (bh := bh) (k := 1) (by decide) hfo)
          clear hfo
          go_wp2_with fail
          refine HC.out.mono ?_
          rintro e w1 ⟨v, rfl, -, hB⟩
          have HW2 := Lib.hid (HW1.out.up hB)
          clear hB HW1 HW HC hix a0 a1 a4 b0 b1 b4 c0 c1 c2 c3 c4 d0 d1 d2 d3 d4 e0 e1
          obtain ⟨c0, c1, c2, c3, c4⟩ := cells2 HW2.out.2.2.1
          go_wp2_with fail
          refine bodyPost_ret (v := .tuple #[.agg #[.int .i64 _, .int .i64 _], .bool _]) (results_cell_tmp Tryz.results117 _ _ (w.heap.size + 2) 30 #[.int .i64 _, .int .i64 _] (0, 0) _ _ rfl rfl (set2 HW2.out.2.2.1 _ _) Tryz.underlying30 rfl (by kernel_rfl)) rfl ?_
          rw [HN.out]
          exact retJ_none (Below.set2 HW2.out.2.2.2.2.2 (by omega) _ _)
        | some u =>
          rw [hfo] at HC
          have HE := Lib.hid (show f (cx al ah 1) (cy bl bh 1) = some u from hfo)
          clear hfo
          go_wp2_with fail
          refine HC.out.mono ?_
          rintro e w1 ⟨v, rfl, hv, hB⟩
          obtain rfl : v = u := hv u rfl
          have HW2 := Lib.hid (HW1.out.up hB)
          clear hB HW1 HW HC hix hv a0 a1 a4 b0 b1 b4 c0 c1 c2 c3 c4 d0 d1 d2 d3 d4 e0 e1
          obtain ⟨d0, d1, d2, d3, d4⟩ := cells2 HW2.out.2.2.2.1
          go_wp2_with fail
          all_goals
            go_roundw
            case rel => exact ⟨2, _, _, by omega, rfl, ⟨lo, hi, v, HP.out, HE.out, by omega, by omega⟩, HW2.out.set hg _ _⟩
            case measure => simp [intOf]
      · have hix : ∀ W : World, (Instr.index 120 (.agg #[.int .i64 al, .int .i64 bl, .int .i64 al, .int .i64 bh, .int .i64 ah, .int .i64 bl, .int .i64 ah, .int .i64 bh]) (.int .i64 2)).run Tryz.prog W = .ok (.agg #[.int .i64 ah, .int .i64 bl]) W := fun _ => by kernel_rfl
        have HC := Lib.hid (HF.out ah bl (wr.alloc (.cells #[.int .i64 ah, .int .i64 bl] 119)) (by simp) (by simp))
        have HW1 := Lib.hid (HW.out.up (below_box' wr (.cells #[.int .i64 ah, .int .i64 bl] 119)))
        cases hfo : f ah bl with
        | none =>
          rw [hfo] at HC
          have HN := Lib.hid (corn_none (f := f) (al := al) (ah := ah) (bl := bl) (bh := bh) (k := 2) (by decide) hfo)
          clear hfo
          go_wp2_with fail
          refine HC.out.mono ?_
          rintro e w1 ⟨v, rfl, -, hB⟩
          have HW2 := Lib.hid (HW1.out.up hB)
          clear hB HW1 HW HC hix a0 a1 a4 b0 b1 b4 c0 c1 c2 c3 c4 d0 d1 d2 d3 d4 e0 e1
          obtain ⟨c0, c1, c2, c3, c4⟩ := cells2 HW2.out.2.2.1
          go_wp2_with fail
          refine bodyPost_ret (v := .tuple #[.agg #[.int .i64 _, .int .i64 _], .bool _]) (results_cell_tmp Tryz.results117 _ _ (w.heap.size + 2) 30 #[.int .i64 _, .int .i64 _] (0, 0) _ _ rfl rfl (set2 HW2.out.2.2.1 _ _) Tryz.underlying30 rfl (by kernel_rfl)) rfl ?_
          rw [HN.out]
          exact retJ_none (Below.set2 HW2.out.2.2.2.2.2 (by omega) _ _)
        | some u =>
          rw [hfo] at HC
          have HE := Lib.hid (show f (cx al ah 2) (cy bl bh 2) = some u from hfo)
          clear hfo
          go_wp2_with fail
          refine HC.out.mono ?_
          rintro e w1 ⟨v, rfl, hv, hB⟩
          obtain rfl : v = u := hv u rfl
          have HW2 := Lib.hid (HW1.out.up hB)
          clear hB HW1 HW HC hix hv a0 a1 a4 b0 b1 b4 c0 c1 c2 c3 c4 d0 d1 d2 d3 d4 e0 e1
          obtain ⟨d0, d1, d2, d3, d4⟩ := cells2 HW2.out.2.2.2.1
          go_wp2_with fail
          all_goals
            go_roundw
            case rel => exact ⟨3, _, _, by omega, rfl, ⟨lo, hi, v, HP.out, HE.out, by omega, by omega⟩, HW2.out.set hg _ _⟩
            case measure => simp [intOf]
      · have hix : ∀ W : World, (Instr.index 120 (.agg #[.int .i64 al, .int .i64 bl, .int .i64 al, .int .i64 bh, .int .i64 ah, .int .i64 bl, .int .i64 ah, .int .i64 bh]) (.int .i64 3)).run Tryz.prog W = .ok (.agg #[.int .i64 ah, .int .i64 bh]) W := fun _ => by kernel_rfl
        have HC := Lib.hid (HF.out ah bh (wr.alloc (.cells #[.int .i64 ah, .int .i64 bh] 119)) (by simp) (by simp))
        have HW1 := Lib.hid (HW.out.up (below_box' wr (.cells #[.int .i64 ah, .int .i64 bh] 119)))
        cases hfo : f ah bh with
        | none =>
          rw [hfo] at HC
          have HN := Lib.hid (corn_none (f := f) (al := al) (ah := ah) (bl := bl) (bh := bh) (k := 3) (by decide) hfo)
          clear hfo
          go_wp2_with fail
          refine HC.out.mono ?_
          rintro e w1 ⟨v, rfl, -, hB⟩
          have HW2 := Lib.hid (HW1.out.up hB)
          clear hB HW1 HW HC hix a0 a1 a4 b0 b1 b4 c0 c1 c2 c3 c4 d0 d1 d2 d3 d4 e0 e1
          obtain ⟨c0, c1, c2, c3, c4⟩ := cells2 HW2.out.2.2.1
          go_wp2_with fail
          refine bodyPost_ret (v := .tuple #[.agg #[.int .i64 _, .int .i64 _], .bool _]) (results_cell_tmp Tryz.results117 _ _ (w.heap.size + 2) 30 #[.int .i64 _, .int .i64 _] (0, 0) _ _ rfl rfl (set2 HW2.out.2.2.1 _ _) Tryz.underlying30 rfl (by kernel_rfl)) rfl ?_
          rw [HN.out]
          exact retJ_none (Below.set2 HW2.out.2.2.2.2.2 (by omega) _ _)
        | some u =>
          rw [hfo] at HC
          have HE := Lib.hid (show f (cx al ah 3) (cy bl bh 3) = some u from hfo)
          clear hfo
          go_wp2_with fail
          refine HC.out.mono ?_
          rintro e w1 ⟨v, rfl, hv, hB⟩
          obtain rfl : v = u := hv u rfl
          have HW2 := Lib.hid (HW1.out.up hB)
          clear hB HW1 HW HC hix hv a0 a1 a4 b0 b1 b4 c0 c1 c2 c3 c4 d0 d1 d2 d3 d4 e0 e1
          obtain ⟨d0, d1, d2, d3, d4⟩ := cells2 HW2.out.2.2.2.1
          go_wp2_with fail
          all_goals
            go_roundw
            case rel => exact ⟨4, _, _, by omega, rfl, ⟨lo, hi, v, HP.out, HE.out, by omega, by omega⟩, HW2.out.set hg _ _⟩
            case measure => simp [intOf]
end Spc
end Go.Proofs.YtjhgjplhhhgfcaaGreat
