/- Package mach: move, and what numbers and values alone ask. Written by gen_mce.py. -/
import Derived.Test.YtpigkppnelnhiaaGreatMcD
namespace Go.Proofs.YtpigkppnelnhiaaGreat
open Go.ChangeShapes Go.WideShapes Go.ChangeAt Go.RowKit
set_option linter.unusedVariables false
set_option maxRecDepth 100000
theorem set_u {w : World} {base g : Nat} {P : Pg} {S : St} {vc vk vg vn : Value} (h : Mem w base g P S vc vk vg vn) (hp : S.pc < 1048576) (d : Nat) (hdn : d < 11) (A : V) :
    Calls Tryz.prog 80 #[.pointer (some ⟨g, 0, none⟩), .int .i64 d, .agg #[.int .i64 A.k, .int .i64 A.t, .int .i64 A.r, .int .i64 A.x]] w (Went base g P vc vk vg vn (setL P S d A) w) := set_v h hp d hdn A.k A.t A.r A.x
set_option maxHeartbeats 4000000 in
theorem move_v {w : World} {base g : Nat} {P : Pg} {S : St} {vc vk vg vn : Value} (h : Mem w base g P S vc vk vg vn) (hp : S.pc < 1048576) (d : Nat) (hdn : d < 11) (A : V) (y : Int) :
    Calls Tryz.prog 77 #[.pointer (some ⟨g, 0, none⟩), .int .i64 d, .agg #[.int .i64 A.k, .int .i64 A.t, .int .i64 A.r, .int .i64 A.x], .int .i64 y] w (Went base g P vc vk vg vn (movedL P S d A y) w) := by
  have hV1 := Blk.new w 43 #[.int .i64 A.k, .int .i64 A.t, .int .i64 A.r, .int .i64 A.x]
  have hB1 := box1 w (.cells #[.int .i64 A.k, .int .i64 A.t, .int .i64 A.r, .int .i64 A.x] 43)
  have HM := Lib.hid h
  have hgm := h.fb.lt
  have hd' : (d : Int) < 11 := by omega
  clear h
  go_enter Tryz.func77, Tryz.ntmps77
  go_upto_region 1 with (fail)
  generalize (w.alloc (.cells #[.int .i64 A.k, .int .i64 A.t, .int .i64 A.r, .int .i64 A.x] 43)) = w1 at *
  obtain ⟨⟨a0, a1, a2, a3⟩, f0, f1, f2, f3⟩ := hV1.four
  obtain ⟨x, hx⟩ : ∃ x, wrap64 (A.x + y) = x := ⟨_, rfl⟩
  have HL := Lib.hid (show movedL P S d A y = if x < -1048576 ∨ 1048576 < x then (85, S) else setL P S d { A with x := x } by unfold movedL; rw [hx])
  have HX := Lib.hid hx
  have hV2 := hV1.set_ 3 (.int .i64 x)
  have hB2 := hB1.setCell (p := ⟨w.heap.size, 3, none⟩) (Nat.le_refl _) (.int .i64 x)
  clear hx hV1 hB1
  go_upto_region 2 with (fail)
  rw [HX.out]
  clear HX a0 a1 a2 a3 f0 f1 f2 f3
  generalize (w1.setCell ⟨w.heap.size, 3, none⟩ (.int .i64 x)) = w2 at *
  have a0 : w2.cell? ⟨w.heap.size, 0, none⟩ = some (.int .i64 A.k) := hV2.cell 0
  have a1 : w2.cell? ⟨w.heap.size, 1, none⟩ = some (.int .i64 A.t) := hV2.cell 1
  have a2 : w2.cell? ⟨w.heap.size, 2, none⟩ = some (.int .i64 A.r) := hV2.cell 2
  have a3 : w2.cell? ⟨w.heap.size, 3, none⟩ = some (.int .i64 x) := hV2.cell 3
  have HM2 := Lib.hid (HM.out.up hB2)
  have HT2 := Lib.hid (Touch.of_below (g := g) hB2)
  clear hV2 hB2 HM
  by_cases h1 : x < -1048576
  · have HE := Lib.hid (HL.out.trans (if_pos (.inl h1)))
    go_wp2_with fail
    go_ret
    unfold Went
    rw [HE.out]
    exact ⟨rfl, HM2.out, HT2.out⟩
  · by_cases h2 : 1048576 < x
    · have HE := Lib.hid (HL.out.trans (if_pos (.inr h2)))
      go_wp2_with fail
      go_ret
      unfold Went
      rw [HE.out]
      exact ⟨rfl, HM2.out, HT2.out⟩
    · have HE := Lib.hid (HL.out.trans (if_neg (by omega)))
      go_wp2_with fail
      go_at_call 80
      refine (set_u HM2.out hp d hdn ⟨A.k, A.t, A.r, x⟩).mono ?_
      rintro e w3 ⟨rfl, hM3, hT3⟩
      go_wp2_with fail
      go_ret
      unfold Went
      rw [HE.out]
      exact ⟨rfl, hM3, HT2.out.trans hT3⟩

set_option maxHeartbeats 4000000 in
theorem constant_v {w : World} {base g : Nat} {P : Pg} {S : St} {vc vk vg vn : Value} (h : Mem w base g P S vc vk vg vn) (hp : S.pc < 1048576) (op : Int) (nar reg : Bool) (size dst src off imm : Int) (hd0 : 0 ≤ dst ∧ dst < 11) :
    Calls Tryz.prog 57 #[.pointer (some ⟨g, 0, none⟩), .agg #[.int .i64 op, .bool nar, .bool reg, .int .i64 size, .int .i64 dst, .int .i64 src, .int .i64 off, .int .i64 imm]] w (Went base g P vc vk vg vn (conL P S ⟨op, nar, reg, size, dst, src, off, imm⟩) w) := by
  obtain ⟨d, rfl⟩ := Int.eq_ofNat_of_zero_le hd0.1
  have hdn : d < 11 := by omega
  have hd' : (d : Int) < 11 := by omega
  have hM1 := h.alloc (.cells #[.int .i64 op, .bool nar, .bool reg, .int .i64 size, .int .i64 d, .int .i64 src, .int .i64 off, .int .i64 imm] 57)
  have hI1 := Blk.new w 57 #[.int .i64 op, .bool nar, .bool reg, .int .i64 size, .int .i64 d, .int .i64 src, .int .i64 off, .int .i64 imm]
  have hT1 := Touch.alloc (g := g) w (.cells #[.int .i64 op, .bool nar, .bool reg, .int .i64 size, .int .i64 d, .int .i64 src, .int .i64 off, .int .i64 imm] 57)
  have hgm := h.fb.lt
  clear h
  go_enter Tryz.func57, Tryz.ntmps57
  go_upto_region 1 with (fail)
  generalize (w.alloc (.cells #[.int .i64 op, .bool nar, .bool reg, .int .i64 size, .int .i64 d, .int .i64 src, .int .i64 off, .int .i64 imm] 57)) = w1 at *
  generalize w.heap.size = m at *
  obtain ⟨c0, c1, c2, c3, c4, c5, c6, c7⟩ := hI1.eight
  have HM1 := Lib.hid hM1
  have HI1 := Lib.hid hI1
  have HT1 := Lib.hid hT1
  clear hM1 hI1 hT1
  go_wp2_with fail
  go_at_call 24
  refine (num_u _ _).mono ?_
  rintro e w2 ⟨rfl, hB2⟩
  have hV3 := Blk.new w2 43 #[.int .i64 1, .int .i64 0, .int .i64 0, .int .i64 imm]
  have hB3 := box1 w2 (.cells #[.int .i64 1, .int .i64 0, .int .i64 0, .int .i64 imm] 43)
  have hI3 := (HI1.out.up hB2).up hB3
  have hM3 := (HM1.out.up hB2).up hB3
  have hT3 := (HT1.out.trans (Touch.of_below hB2)).trans (Touch.of_below hB3)
  go_upto_region 2 with (fail)
  have hmq : m ≠ w2.heap.size := by have := (HI1.out.up hB2).lt; omega
  have hgq : g ≠ w2.heap.size := by have := (HM1.out.up hB2).fb.lt; omega
  generalize (w2.alloc (.cells #[.int .i64 1, .int .i64 0, .int .i64 0, .int .i64 imm] 43)) = w3 at *
  have k0 : w3.cell? ⟨m, 0, none⟩ = some (.int .i64 op) := hI3.cell 0
  have k4 : w3.cell? ⟨m, 4, none⟩ = some (.int .i64 d) := hI3.cell 4
  obtain ⟨⟨a0, a1, a2, a3⟩, f0, f1, f2, f3⟩ := hV3.four
  cases tO : (op == 21)
  · have HE := Lib.hid (show conL P S ⟨op, nar, reg, size, d, src, off, imm⟩ = setL P S d ⟨1, 0, 0, imm⟩ by unfold conL; simp only [Int.toNat_natCast]; rw [if_neg (ne_of_beq_false tO)])
    have HM3 := Lib.hid hM3
    have HT3 := Lib.hid hT3
    clear hV3 hB3 hI3 hM3 hT3 hB2 HM1 HI1 HT1
    go_wp2_with fail
    go_at_call 80
    refine (set_v HM3.out hp d hdn 1 0 0 imm).mono ?_
    rintro e w4 ⟨rfl, hM4, hT4⟩
    go_wp2_with fail
    go_ret
    unfold Went
    rw [HE.out]
    exact ⟨rfl, hM4, HT3.out.trans hT4⟩
  · have HE := Lib.hid (show conL P S ⟨op, nar, reg, size, d, src, off, imm⟩ = setL P S d ⟨4, 0, 0, imm⟩ by unfold conL; simp only [Int.toNat_natCast]; rw [if_pos (eq_of_beq tO)])
    have hB4 := hB3.setCell (p := ⟨w2.heap.size, 0, none⟩) (Nat.le_refl _) (.int .i64 4)
    have hV4 := hV3.set_ 0 (.int .i64 4)
    have HI4 := Lib.hid ((HI1.out.up hB2).up hB4)
    have HM4 := Lib.hid ((HM1.out.up hB2).up hB4)
    have HT4 := Lib.hid ((HT1.out.trans (Touch.of_below hB2)).trans (Touch.of_below (g := g) hB4))
    have HV4 := Lib.hid hV4
    clear hB3 hB4 hV3 hV4 hI3 hM3 hT3 hB2 HM1 HI1 HT1
    go_upto_region 4 with (fail)
    clear k0 k4 a0 a1 a2 a3 f0 f1 f2 f3
    generalize (w3.setCell ⟨w2.heap.size, 0, none⟩ (.int .i64 4)) = w4 at *
    have k4 : w4.cell? ⟨m, 4, none⟩ = some (.int .i64 d) := HI4.out.cell 4
    obtain ⟨⟨a0, a1, a2, a3⟩, -⟩ := HV4.out.four
    go_wp2_with fail
    go_at_call 80
    refine (set_v HM4.out hp d hdn 4 0 0 imm).mono ?_
    rintro e w5 ⟨rfl, hM5, hT5⟩
    go_wp2_with fail
    go_ret
    unfold Went
    rw [HE.out]
    exact ⟨rfl, hM5, HT4.out.trans hT5⟩

theorem extend_t (size : Int) (n : Bool) (a : Int) (w : World) : Calls Tryz.prog 82 #[.int .i64 size, .bool n, .int .i64 a] w fun e w' => e = .returned (.int .i64 (extF size n a)) ∧ w = w' := by
  unfold extF
  by_cases h : size = 8 ∨ size = 16 ∨ (size = 32 ∧ n = false)
  · rw [if_pos h]
    rcases h with rfl | rfl | ⟨rfl, rfl⟩
    · exact extend_yes 8 n a (.inl rfl) w
    · exact extend_yes 16 n a (.inr (.inl rfl)) w
    · exact extend_yes 32 false a (.inr (.inr ⟨rfl, rfl⟩)) w
  · rw [if_neg h]
    refine extend_no size n a (fun e => h (.inl e)) (fun e => h (.inr (.inl e))) (fun e => ?_) w
    cases n
    · exact absurd (.inr (.inr ⟨e, rfl⟩)) h
    · rfl
theorem swap_t (size : Int) (t : Bool) (a : Int) (w : World) : Calls Tryz.prog 83 #[.int .i64 size, .bool t, .int .i64 a] w fun e w' => e = .returned (.int .i64 (swapF size t a)) ∧ w = w' := by
  unfold swapF
  by_cases h : size = 16 ∨ size = 32 ∨ size = 64
  · rw [if_pos h]
    rcases h with rfl | rfl | rfl
    · exact swap_core 2 t a (.inl rfl) w
    · exact swap_core 4 t a (.inr (.inl rfl)) w
    · exact swap_core 8 t a (.inr (.inr rfl)) w
  · rw [if_neg h]
    exact swap_no size t a (fun e => h (.inl e)) (fun e => h (.inr (.inl e))) (fun e => h (.inr (.inr e))) w
theorem exit_v {w : World} {base g : Nat} {P : Pg} {S : St} {vc vk vg vn : Value} (h : Mem w base g P S vc vk vg vn) (op : Int) (nar reg : Bool) (size dst src off imm : Int) :
    Calls Tryz.prog 63 #[.pointer (some ⟨g, 0, none⟩), .agg #[.int .i64 op, .bool nar, .bool reg, .int .i64 size, .int .i64 dst, .int .i64 src, .int .i64 off, .int .i64 imm]] w (Went base g P vc vk vg vn (exitL S) w) := by
  obtain ⟨A, hA⟩ : ∃ A, S.regs 0 = A := ⟨_, rfl⟩

  have hM1 := h.alloc (.cells #[.int .i64 op, .bool nar, .bool reg, .int .i64 size, .int .i64 dst, .int .i64 src, .int .i64 off, .int .i64 imm] 57)
  have hI1 := Blk.new w 57 #[.int .i64 op, .bool nar, .bool reg, .int .i64 size, .int .i64 dst, .int .i64 src, .int .i64 off, .int .i64 imm]
  have hT1 := Touch.alloc (g := g) w (.cells #[.int .i64 op, .bool nar, .bool reg, .int .i64 size, .int .i64 dst, .int .i64 src, .int .i64 off, .int .i64 imm] 57)
  have hgm := h.fb.lt
  clear h
  go_enter Tryz.func63, Tryz.ntmps63
  go_upto_region 1 with (fail)
  generalize (w.alloc (.cells #[.int .i64 op, .bool nar, .bool reg, .int .i64 size, .int .i64 dst, .int .i64 src, .int .i64 off, .int .i64 imm] 57)) = w1 at *
  generalize w.heap.size = m at *
  obtain ⟨c0, c1, c2, c3⟩ := hM1.reg 0 (by decide)
  rw [hA] at c0 c1 c2 c3
  have HL := Lib.hid (show exitL S = if A.isNum = true then (0, { S with steps := wrap64 (S.steps + 1), done := true }) else (86, S) by unfold exitL; rw [hA])
  simp only [Nat.zero_mul, Nat.add_zero] at c0 c1 c2 c3
  have HM1 := Lib.hid hM1
  have HT1 := Lib.hid hT1
  clear hM1 hI1 hT1 hA
  cases tA : A.isNum
  · have HE := Lib.hid HL.out
    rw [tA, if_neg Bool.false_ne_true] at HE
    go_wp2_with fail
    go_at_call 76
    refine (isNum_u A false tA _).mono ?_
    rintro e w2 ⟨rfl, hB2⟩
    go_wp2_with fail
    go_ret
    unfold Went
    rw [HE.out]
    exact ⟨rfl, HM1.out.up hB2, HT1.out.trans (Touch.of_below hB2)⟩
  · have HE := Lib.hid HL.out
    rw [tA, if_pos rfl] at HE
    go_wp2_with fail
    go_at_call 76
    refine (isNum_u A true tA _).mono ?_
    rintro e w2 ⟨rfl, hB2⟩
    have hM2 := HM1.out.up hB2
    have s2 := hM2.steps
    have k2 := hM2.done
    have f1 := hM2.fb.frozen 468
    have f2 := hM2.fb.frozen 469
    have HM2 := Lib.hid hM2
    have HT2 := Lib.hid (HT1.out.trans (Touch.of_below hB2))
    have HT3 := Lib.hid ((Touch.set_ (g := g) w2 468 (.int .i64 (wrap64 (S.steps + 1)))).trans (Touch.set_ (g := g) _ 469 (.bool true)))
    clear hM2 hB2
    go_wp2_with fail
    go_ret
    unfold Went
    rw [HE.out]
    refine ⟨rfl, HM2.out.touch HT3.out (((HM2.out.fb.set_ _ _).set_ _ _).congr fun k hk => ?_) rfl rfl, HT2.out.trans HT3.out⟩
    unfold updC mC
    by_cases h1 : k = 469
    · subst h1; rfl
    · rw [if_neg h1]
      by_cases h2 : k = 468
      · subst h2; rfl
      · rw [if_neg h2]
        by_cases a : k < 416
        · rw [if_pos a, if_pos a]
        · rw [if_neg a, if_neg a, if_neg h2, if_neg h2]
          by_cases a1 : k = 416
          · rw [if_pos a1, if_pos a1]
          · have : ¬ 469 < k := by omega
            have : k < 468 := by omega
            rw [if_neg a1, if_neg a1]
            repeat (first | rfl | (split <;> try rfl))
            all_goals (exfalso; omega)
theorem jump_v {w : World} {base g : Nat} {P : Pg} {S : St} {vc vk vg vn : Value} (h : Mem w base g P S vc vk vg vn) (hp : S.pc < P.goals.length) (op : Int) (nar reg : Bool) (size dst src off imm : Int) :
    Calls Tryz.prog 61 #[.pointer (some ⟨g, 0, none⟩), .agg #[.int .i64 op, .bool nar, .bool reg, .int .i64 size, .int .i64 dst, .int .i64 src, .int .i64 off, .int .i64 imm]] w (Went base g P vc vk vg vn (jumpL P S) w) := by

  have hM1 := h.alloc (.cells #[.int .i64 op, .bool nar, .bool reg, .int .i64 size, .int .i64 dst, .int .i64 src, .int .i64 off, .int .i64 imm] 57)
  have hI1 := Blk.new w 57 #[.int .i64 op, .bool nar, .bool reg, .int .i64 size, .int .i64 dst, .int .i64 src, .int .i64 off, .int .i64 imm]
  have hT1 := Touch.alloc (g := g) w (.cells #[.int .i64 op, .bool nar, .bool reg, .int .i64 size, .int .i64 dst, .int .i64 src, .int .i64 off, .int .i64 imm] 57)
  have hgm := h.fb.lt
  clear h
  go_enter Tryz.func61, Tryz.ntmps61
  go_upto_region 1 with (fail)
  generalize (w.alloc (.cells #[.int .i64 op, .bool nar, .bool reg, .int .i64 size, .int .i64 dst, .int .i64 src, .int .i64 off, .int .i64 imm] 57)) = w1 at *
  generalize w.heap.size = m at *
  obtain ⟨A, c, rfl, hA⟩ := hM1.goals.form
  obtain ⟨b, o, rfl, hb, hcell⟩ := hA (by omega)
  have hx : w1.cell? ⟨b, o + S.pc, none⟩ = some (.int .i64 (goalL P S)) := hcell S.pc hp
  have hp' : (S.pc : Int) < P.goals.length := by omega
  have k1 := hM1.cG
  have k2 := hM1.pc
  have HG := Lib.hid (goTo_v hM1.drw (goalL P S))
  have HT1 := Lib.hid hT1
  have HL := Lib.hid (show goToL P S (goalL P S) = jumpL P S from rfl)
  clear hM1 hI1 hT1 hA hcell
  generalize goalL P S = G at *
  refine wp_region_still_tail 11 (by kernel_rfl) (by kernel_rfl) ?_
  simp only [List.take_succ_cons, List.take_zero, List.drop_succ_cons, List.drop_zero]
  iterate 11 still_step
  refine wpStill_nil ?_
  go_wp2_with fail
  go_at_call 95
  refine HG.out.mono ?_
  rintro e w2 ⟨rfl, hM2, hT2⟩
  go_wp2_with fail
  go_ret
  unfold Went
  rw [← HL.out]
  exact ⟨rfl, hM2, HT1.out.drw.trans hT2⟩

end Go.Proofs.YtpigkppnelnhiaaGreat
