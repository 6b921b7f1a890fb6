/- Package mach: goTo, goOn, set, second. -/
import Derived.Test.YtpigkppnelnhiaaGreatMcB
namespace Go.Proofs.YtpigkppnelnhiaaGreat
open Go.ChangeShapes Go.WideShapes Go.ChangeAt Go.RowKit
set_option linter.unusedVariables false
set_option maxRecDepth 100000
theorem owns_slice {w : World} {base : Nat} {e : TypeId} {size n : Nat} {v : Value} {xs : List Value} (h : w.ownsRow base e size v n xs) : ∃ A c, v = .slice A n c := by
  rcases h.2 with ⟨rfl, rfl⟩ | ⟨b, cap, cur, e1, _⟩
  · exact ⟨none, 0, rfl⟩
  · exact ⟨_, _, e1⟩
theorem Mem.drw {w : World} {base g : Nat} {P : Pg} {S : St} {vc vk vg vn : Value} (h : Mem w base g P S vc vk vg vn) : Mem w.drew base g P S vc vk vg vn := ⟨h.fb, h.lo, h.ctx, h.code, h.goals, h.sent, h.apart⟩
theorem Touch.drw {g : Nat} {w w' : World} (h : Touch g w w') : Touch g w w'.drew := ⟨h.os, h.tape, h.output, h.size, h.block⟩
theorem Touch.set4 {g : Nat} (w : World) (a b c d : Nat) (x y z u : Value) : Touch g w ((((w.setCell ⟨g, a, none⟩ x).setCell ⟨g, b, none⟩ y).setCell ⟨g, c, none⟩ z).setCell ⟨g, d, none⟩ u) := ((((Touch.set_ _ _ _).trans (Touch.set_ _ _ _)).trans (Touch.set_ _ _ _)).trans (Touch.set_ _ _ _))
/-- what a call that goes on leaves -/
def Went (base g : Nat) (P : Pg) (vc vk vg vn : Value) (r : Int × St) (w : World) (e : Ending) (w' : World) : Prop :=
  e = .returned (.int .i64 r.1) ∧ Mem w' base g P r.2 vc vk vg vn ∧ Touch g w w'
theorem goTo_v {w : World} {base g : Nat} {P : Pg} {S : St} {vc vk vg vn : Value} (h : Mem w base g P S vc vk vg vn) (q : Int) :
    Calls Tryz.prog 95 #[.pointer (some ⟨g, 0, none⟩), .int .i64 q] w (Went base g P vc vk vg vn (goToL P S q) w) := by
  obtain ⟨A, c, rfl⟩ := owns_slice h.code
  have hk := h.cK
  have HM := Lib.hid h
  rcases Int.lt_or_le q 0 with h0 | h0
  · have HE := Lib.hid (show goToL P S q = (89, S) by unfold goToL; rw [if_pos (.inl h0)])
    clear h
    go_enter Tryz.func95, Tryz.ntmps95
    go_wp2_with fail
    go_ret
    unfold Went
    rw [HE.out]
    exact ⟨rfl, HM.out, Touch.refl _ _⟩
  · rcases Int.lt_or_le q P.code.length with h1 | h1
    · obtain ⟨n, rfl⟩ := Int.eq_ofNat_of_zero_le h0
      have HE := Lib.hid (show goToL P S (n : Int) = (0, S.go n) by unfold goToL; rw [if_neg (by omega)]; rfl)
      have HG := Lib.hid (h.go n)
      have HT := Lib.hid ((Touch.set_ (g := g) w 467 (.int .i64 n)).trans (Touch.set_ (g := g) _ 468 (.int .i64 (wrap64 (S.steps + 1)))))
      have hf := h.fb.frozen 467
      have hf2 := h.fb.frozen 468
      have hs := h.steps
      have hpc := h.pc
      have hlt := h.fb.lt
      have t0 : decide ((n : Int) < 0) = false := by simp
      clear h
      go_enter Tryz.func95, Tryz.ntmps95
      go_wp2_with fail
      go_ret
      unfold Went
      rw [HE.out]
      exact ⟨rfl, HG.out, HT.out⟩
    · have HE := Lib.hid (show goToL P S q = (89, S) by unfold goToL; rw [if_pos (.inr h1)])
      clear h
      go_enter Tryz.func95, Tryz.ntmps95
      go_wp2_with fail
      go_ret
      unfold Went
      rw [HE.out]
      exact ⟨rfl, HM.out, Touch.refl _ _⟩
theorem goOn_v {w : World} {base g : Nat} {P : Pg} {S : St} {vc vk vg vn : Value} (h : Mem w base g P S vc vk vg vn) (hp : S.pc < 1048576) :
    Calls Tryz.prog 91 #[.pointer (some ⟨g, 0, none⟩)] w (Went base g P vc vk vg vn (goToL P S (S.pc + 1)) w) := by
  have hc := h.pc
  have hg := Lib.hid (goTo_v h (S.pc + 1))
  clear h
  go_enter Tryz.func91, Tryz.ntmps91
  go_wp2_with (go_at_call 95; refine hg.out.mono ?_; rintro e w' ⟨rfl, hM, hT⟩)
  go_ret
  exact ⟨rfl, hM, hT⟩
theorem goOn_no {P : Pg} {S : St} (h : P.code.length ≤ S.pc + 1) : goToL P S (S.pc + 1) = (89, S) := by unfold goToL; rw [if_pos (by omega)]
theorem goOn_yes {P : Pg} {S : St} (h : ¬ P.code.length ≤ S.pc + 1) : goToL P S (S.pc + 1) = (0, S.go (S.pc + 1)) := by unfold goToL; rw [if_neg (by omega)]; rfl
theorem set_v {w : World} {base g : Nat} {P : Pg} {S : St} {vc vk vg vn : Value} (h : Mem w base g P S vc vk vg vn) (hp : S.pc < 1048576) (r : Nat) (hr : r < 11) (a b c d : Int) :
    Calls Tryz.prog 80 #[.pointer (some ⟨g, 0, none⟩), .int .i64 r, .agg #[.int .i64 a, .int .i64 b, .int .i64 c, .int .i64 d]] w (Went base g P vc vk vg vn (setL P S r ⟨a, b, c, d⟩) w) := by
  have hM1 := h.alloc (.cells #[.int .i64 a, .int .i64 b, .int .i64 c, .int .i64 d] 43)
  have hb1 := Blk.new w 43 #[.int .i64 a, .int .i64 b, .int .i64 c, .int .i64 d]
  have hT1 := Touch.alloc (g := g) w (.cells #[.int .i64 a, .int .i64 b, .int .i64 c, .int .i64 d] 43)
  have hne : w.heap.size ≠ g := by have := h.fb.lt; omega
  clear h
  go_enter Tryz.func80, Tryz.ntmps80
  go_upto_region 1 with (fail)
  generalize (w.alloc (.cells #[.int .i64 a, .int .i64 b, .int .i64 c, .int .i64 d] 43)) = w1 at *
  generalize w.heap.size = m at *
  rcases Nat.lt_or_ge (S.pc + 1) P.code.length with hlt | hge
  · have hg := Lib.hid (goOn_v hM1 hp)
    rw [goOn_yes (by omega)] at hg
    have HE := Lib.hid (show setL P S r ⟨a, b, c, d⟩ = (0, (S.go (S.pc + 1)).put r ⟨a, b, c, d⟩) by unfold setL; rw [if_neg (by omega)])
    have HT1 := Lib.hid hT1
    clear hM1 hlt hT1
    go_upto_region 3 with (go_at_call 91; refine hg.out.mono ?_; rintro e w' ⟨rfl, hM, hT⟩)
    have hb2 := hb1.touch hT hne
    have h0 : w'.cell? ⟨m, 0, none⟩ = some (.int .i64 a) := hb2.cell 0
    have h1 : w'.cell? ⟨m, 1, none⟩ = some (.int .i64 b) := hb2.cell 1
    have h2 : w'.cell? ⟨m, 2, none⟩ = some (.int .i64 c) := hb2.cell 2
    have h3 : w'.cell? ⟨m, 3, none⟩ = some (.int .i64 d) := hb2.cell 3
    have f0 := hM.fb.frozen (422 + r * 4)
    have f1 := hM.fb.frozen (422 + r * 4 + 1)
    have f2 := hM.fb.frozen (422 + r * 4 + 2)
    have f3 := hM.fb.frozen (422 + r * 4 + 3)
    obtain ⟨c0, c1, c2, c3⟩ := hM.reg r hr
    have HP := Lib.hid hM
    have HT := Lib.hid hT
    have hr' : (r : Int) < 11 := by omega
    clear hM hT hb1 hb2 hg
    refine wp_region_still_tail 6 (by kernel_rfl) (by kernel_rfl) ?_
    simp only [List.take_succ_cons, List.take_zero, List.drop_succ_cons, List.drop_zero]
    iterate 6 still_step
    refine wpStill_nil ?_
    go_wp2_with fail
    go_ret
    unfold Went
    rw [HE.out]
    exact ⟨rfl, (HP.out.put r hr ⟨a, b, c, d⟩).drw, HT1.out.trans (HT.out.trans (Touch.set4 _ _ _ _ _ _ _ _ _).drw)⟩
  · have hg := Lib.hid (goOn_v hM1 hp)
    rw [goOn_no (by omega)] at hg
    have HE := Lib.hid (show setL P S r ⟨a, b, c, d⟩ = (89, S) by unfold setL; rw [if_pos (by omega)])
    clear hM1 hge
    go_wp2_with (go_at_call 91; refine hg.out.mono ?_; rintro e w' ⟨rfl, hM, hT⟩)
    go_ret
    unfold Went
    rw [HE.out]
    exact ⟨rfl, hM, hT1.trans hT⟩
/-- the result's block -/
theorem ret_val {fn : Func} {p : Tmp} (h : fn.results = #[.cell p 43]) (tmps : Array Value) (w : World) (b : Nat) (v : V) (hp : tmps.getD p undef = .pointer (some ⟨b, 0, none⟩))
    (hg : Blk w b 43 #[.int .i64 v.k, .int .i64 v.t, .int .i64 v.r, .int .i64 v.x]) : (results fn tmps).run Tryz.prog w = .ok v.val w :=
  results_cell_row h _ _ b 43 #[.int .i64 v.k, .int .i64 v.t, .int .i64 v.r, .int .i64 v.x] (0, 0) _ hp hg Tryz.underlying43 rfl (by kernel_rfl)
theorem Blk.set4 {w : World} {b : Nat} {t : TypeId} {a0 a1 a2 a3 : Value} (h : Blk w b t #[a0, a1, a2, a3]) (x y z u : Value) : Blk ((((w.setCell ⟨b, 0, none⟩ x).setCell ⟨b, 1, none⟩ y).setCell ⟨b, 2, none⟩ z).setCell ⟨b, 3, none⟩ u) b t #[x, y, z, u] :=
  (((h.set_ 0 x).set_ 1 y).set_ 2 z).set_ 3 u
theorem bdrw {B : Nat} {w w' : World} (h : Below B w w') : Below B w w'.drew := ⟨h.os, h.tape, h.output, h.size, h.block⟩
theorem bset4 {B b : Nat} {w0 w : World} (h : Below B w0 w) (hb : B ≤ b) (x y z u : Value) : Below B w0 ((((w.setCell ⟨b, 0, none⟩ x).setCell ⟨b, 1, none⟩ y).setCell ⟨b, 2, none⟩ z).setCell ⟨b, 3, none⟩ u) :=
  (((h.setCell hb _).setCell hb _).setCell hb _).setCell hb _
theorem Blk.four {w : World} {b : Nat} {t : TypeId} {a0 a1 a2 a3 : Value} (h : Blk w b t #[a0, a1, a2, a3]) : (w.cell? ⟨b, 0, none⟩ = some a0 ∧ w.cell? ⟨b, 1, none⟩ = some a1 ∧ w.cell? ⟨b, 2, none⟩ = some a2 ∧ w.cell? ⟨b, 3, none⟩ = some a3) ∧
    (w.frozen? ⟨b, 0, none⟩ = false ∧ w.frozen? ⟨b, 1, none⟩ = false ∧ w.frozen? ⟨b, 2, none⟩ = false ∧ w.frozen? ⟨b, 3, none⟩ = false) := ⟨⟨h.cell 0, h.cell 1, h.cell 2, h.cell 3⟩, h.frozen 0, h.frozen 1, h.frozen 2, h.frozen 3⟩
/-- an instruction's second operand -/
theorem second_v {w : World} {base g : Nat} {P : Pg} {S : St} {vc vk vg vn : Value} (h : Mem w base g P S vc vk vg vn) (op : Int) (nar reg : Bool) (size dst src off imm : Int) (hs : reg = true → 0 ≤ src ∧ src < 11) :
    Calls Tryz.prog 74 #[.pointer (some ⟨g, 0, none⟩), .agg #[.int .i64 op, .bool nar, .bool reg, .int .i64 size, .int .i64 dst, .int .i64 src, .int .i64 off, .int .i64 imm]] w fun e w' => e = .returned (secL S ⟨op, nar, reg, size, dst, src, off, imm⟩).val ∧ Below w.heap.size w w' := by
  have hM := (h.alloc (.cells #[.int .i64 op, .bool nar, .bool reg, .int .i64 size, .int .i64 dst, .int .i64 src, .int .i64 off, .int .i64 imm] 57)).alloc (.cells #[.int .i64 0, .int .i64 0, .int .i64 0, .int .i64 0] 43)
  have hI := (Blk.new w 57 #[.int .i64 op, .bool nar, .bool reg, .int .i64 size, .int .i64 dst, .int .i64 src, .int .i64 off, .int .i64 imm]).alloc (.cells #[.int .i64 0, .int .i64 0, .int .i64 0, .int .i64 0] 43)
  have hV := blk_new2 w (.cells #[.int .i64 op, .bool nar, .bool reg, .int .i64 size, .int .i64 dst, .int .i64 src, .int .i64 off, .int .i64 imm] 57) 43 #[.int .i64 0, .int .i64 0, .int .i64 0, .int .i64 0]
  have hB := box2 w (.cells #[.int .i64 op, .bool nar, .bool reg, .int .i64 size, .int .i64 dst, .int .i64 src, .int .i64 off, .int .i64 imm] 57) (.cells #[.int .i64 0, .int .i64 0, .int .i64 0, .int .i64 0] 43)
  clear h
  cases reg
  · go_enter Tryz.func74, Tryz.ntmps74
    go_upto_region 1 with (fail)
    generalize ((w.alloc (.cells #[.int .i64 op, .bool nar, .bool false, .int .i64 size, .int .i64 dst, .int .i64 src, .int .i64 off, .int .i64 imm] 57)).alloc (.cells #[.int .i64 0, .int .i64 0, .int .i64 0, .int .i64 0] 43)) = w1 at *
    have h2 : w1.cell? ⟨w.heap.size, 2, none⟩ = some (.bool false) := hI.cell 2
    have h7 : w1.cell? ⟨w.heap.size, 7, none⟩ = some (.int .i64 imm) := hI.cell 7
    have HV := Lib.hid hV
    have HB := Lib.hid hB
    clear hM hI hV hB
    go_wp2_with (go_at_call 24; refine (number_v _ _).mono ?_; rintro e w' ⟨rfl, hB'⟩; have hV2 := HV.out.up hB'; obtain ⟨⟨g0, g1, g2, g3⟩, f0, f1, f2, f3⟩ := hV2.four; have HV2 := Lib.hid hV2; clear hV2; unfold V.num V.val)
    exact bodyPost_ret (v := (V.num imm).val) (ret_val Tryz.results74 _ _ (w.heap.size + 1) (V.num imm) rfl (HV2.out.set4 _ _ _ _)) rfl ⟨rfl, bset4 (HB.out.trans (hB'.mono HB.out.size)) (by omega) _ _ _ _⟩
  · obtain ⟨s0, s1⟩ := hs rfl
    obtain ⟨r, rfl⟩ := Int.eq_ofNat_of_zero_le s0
    have hr : r < 11 := by omega
    have HE := Lib.hid (show secL S ⟨op, nar, true, size, dst, r, off, imm⟩ = S.regs r by unfold secL; rw [if_pos rfl]; rfl)
    go_enter Tryz.func74, Tryz.ntmps74
    go_upto_region 1 with (fail)
    generalize ((w.alloc (.cells #[.int .i64 op, .bool nar, .bool true, .int .i64 size, .int .i64 dst, .int .i64 r, .int .i64 off, .int .i64 imm] 57)).alloc (.cells #[.int .i64 0, .int .i64 0, .int .i64 0, .int .i64 0] 43)) = w1 at *
    have h2 : w1.cell? ⟨w.heap.size, 2, none⟩ = some (.bool true) := hI.cell 2
    have h5 : w1.cell? ⟨w.heap.size, 5, none⟩ = some (.int .i64 r) := hI.cell 5
    obtain ⟨c0, c1, c2, c3⟩ := hM.reg r hr
    obtain ⟨⟨g0, g1, g2, g3⟩, f0, f1, f2, f3⟩ := hV.four
    have HV := Lib.hid hV
    have HB := Lib.hid hB
    clear hM hI hV hB
    go_upto_region 2 with (fail)
    refine wp_region_still_tail 7 (by kernel_rfl) (by kernel_rfl) ?_
    simp only [List.take_succ_cons, List.take_zero, List.drop_succ_cons, List.drop_zero]
    iterate 7 still_step
    refine wpStill_nil ?_
    go_wp2_with fail
    rw [HE.out]
    exact bodyPost_ret (v := (S.regs r).val) (ret_val Tryz.results74 _ _ (w.heap.size + 1) (S.regs r) rfl (HV.out.set4 _ _ _ _)) rfl ⟨rfl, bdrw (bset4 HB.out (by omega) _ _ _ _)⟩
end Go.Proofs.YtpigkppnelnhiaaGreat
