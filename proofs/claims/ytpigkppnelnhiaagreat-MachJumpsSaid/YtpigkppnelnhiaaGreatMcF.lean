/- Package mach: extend, swap, mov. Written by gen_mcf.py. -/
import Derived.Test.YtpigkppnelnhiaaGreatMcE
namespace Go.Proofs.YtpigkppnelnhiaaGreat
open Go.ChangeShapes Go.WideShapes Go.ChangeAt Go.RowKit
set_option linter.unusedVariables false
set_option maxRecDepth 100000

/-- what holds, whatever has come up -/
def ExtendR (w1 : World) (g m s : Nat) (A : V) (u : Nat → Prop) (X : Tmp → Value) (w : World) : Prop :=
  Below w1.heap.size w1 w ∧
  (u 0 → X 6 = .pointer (some ⟨g, 0, none⟩)) ∧
  (u 1 → X 7 = .pointer (some ⟨m, 5, none⟩)) ∧
  (u 2 → X 8 = .int .i64 (s : Int)) ∧
  (u 3 → X 9 = .pointer (some ⟨g, 0, none⟩)) ∧
  (u 4 → X 10 = .pointer (some ⟨g, 422, none⟩)) ∧
  (u 5 → X 11 = .pointer (some ⟨g, 422 + s * 4, none⟩)) ∧
  (u 6 → X 12 = .agg #[.int .i64 A.k, .int .i64 A.t, .int .i64 A.r, .int .i64 A.x]) ∧
  SlotM w1.heap.size 43 (u 7) (u 8) (X 5) w #[.int .i64 A.k, .int .i64 A.t, .int .i64 A.r, .int .i64 A.x]

set_option maxHeartbeats 4000000 in
theorem extend_v {w : World} {base g : Nat} {P : Pg} {S : St} {vc vk vg vn : Value} (h : Mem w base g P S vc vk vg vn) (hp : S.pc < 1048576) (op : Int) (nar reg : Bool) (size dst src off imm : Int) (hd0 : 0 ≤ dst ∧ dst < 11) (hs0 : 0 ≤ src ∧ src < 11) :
    Calls Tryz.prog 55 #[.pointer (some ⟨g, 0, none⟩), .agg #[.int .i64 op, .bool nar, .bool reg, .int .i64 size, .int .i64 dst, .int .i64 src, .int .i64 off, .int .i64 imm]] w (Went base g P vc vk vg vn (extL P S ⟨op, nar, reg, size, dst, src, off, imm⟩) w) := by
  obtain ⟨d, rfl⟩ := Int.eq_ofNat_of_zero_le hd0.1
  have hdn : d < 11 := by omega
  have hd' : (d : Int) < 11 := by omega
  obtain ⟨s, rfl⟩ := Int.eq_ofNat_of_zero_le hs0.1
  have hsn : s < 11 := by omega
  have hs' : (s : Int) < 11 := by omega
  obtain ⟨A, hA⟩ : ∃ A, S.regs s = A := ⟨_, rfl⟩
  have HL := Lib.hid (show extL P S ⟨op, nar, reg, size, d, s, off, imm⟩ = if A.isNum = true then setL P S d (V.num (extF size nar A.x)) else (80, S) by unfold extL; simp only [Int.toNat_natCast]; rw [hA])
  have HA := Lib.hid hA
  have hM1 := h.alloc (.cells #[.int .i64 op, .bool nar, .bool reg, .int .i64 size, .int .i64 d, .int .i64 s, .int .i64 off, .int .i64 imm] 57)
  have hI1 := Blk.new w 57 #[.int .i64 op, .bool nar, .bool reg, .int .i64 size, .int .i64 d, .int .i64 s, .int .i64 off, .int .i64 imm]
  have hT1 := Touch.alloc (g := g) w (.cells #[.int .i64 op, .bool nar, .bool reg, .int .i64 size, .int .i64 d, .int .i64 s, .int .i64 off, .int .i64 imm] 57)
  have hgm := h.fb.lt
  clear h
  go_enter Tryz.func55, Tryz.ntmps55
  go_upto_region 1 with (fail)
  generalize (w.alloc (.cells #[.int .i64 op, .bool nar, .bool reg, .int .i64 size, .int .i64 d, .int .i64 s, .int .i64 off, .int .i64 imm] 57)) = w1 at *
  generalize w.heap.size = m at *
  have HM1 := Lib.hid hM1
  have HI1 := Lib.hid hI1
  have HT1 := Lib.hid hT1
  clear hM1 hI1 hT1 hA hd0 hs0
  refine Inv.wp_region_inv [5, 6, 7, 8, 9, 10, 11, 12] (ExtendR w1 g m s A) (by kernel_rfl) (by kernel_rfl) [0, 1, 2, 3, 4, 5, 6, 7, 8] (by kernel_rfl) ?_ ?_ ?_
  · exact ⟨bdrw (Below.refl _ _), fun h => h.elim, fun h => h.elim, fun h => h.elim, fun h => h.elim, fun h => h.elim, fun h => h.elim, fun h => h.elim, SlotM.no⟩
  · refine Inv.AllInv.cons ({ dst := some 6, op := Op.move (Operand.tmp 0), type := 31, pos := "join.go:77", after := #[], guard := none }) rfl rfl [] (by kernel_rfl) ?_ ?_
    · intro Q2 u X wv hR hu hd K hK
      obtain ⟨q0, q1, q2, q3, q4, q5, q6, q7, q8⟩ := hR
      refine ⟨?_⟩
      simp only [Inv.puts, Act.put, List.setIfInBounds_toArray, List.set_cons_zero, List.set_cons_succ] at hK
      simp only [Inv.puts, Act.put, List.setIfInBounds_toArray, List.set_cons_zero, List.set_cons_succ]
      go_simp
      refine hK.out (Inv.upd X 6 (.pointer (some ⟨g, 0, none⟩))) _ ?_
      exact ⟨q0, fun _ => rfl, fun h => q2 (h.resolve_left (by decide)), fun h => q3 (h.resolve_left (by decide)), fun h => q4 (h.resolve_left (by decide)), fun h => q5 (h.resolve_left (by decide)), fun h => q6 (h.resolve_left (by decide)), fun h => q7 (h.resolve_left (by decide)), (q8.step (by decide) (by decide))⟩
    refine Inv.AllInv.cons ({ dst := some 7, op := Op.fieldAddr 57 (Operand.tmp 3) 5, type := 0, pos := "join.go:77", after := #[], guard := none }) rfl rfl [] (by kernel_rfl) ?_ ?_
    · intro Q2 u X wv hR hu hd K hK
      obtain ⟨q0, q1, q2, q3, q4, q5, q6, q7, q8⟩ := hR
      refine ⟨?_⟩
      simp only [Inv.puts, Act.put, List.setIfInBounds_toArray, List.set_cons_zero, List.set_cons_succ] at hK
      simp only [Inv.puts, Act.put, List.setIfInBounds_toArray, List.set_cons_zero, List.set_cons_succ]
      go_simp
      refine hK.out (Inv.upd X 7 (.pointer (some ⟨m, 5, none⟩))) _ ?_
      exact ⟨q0, fun h => q1 (h.resolve_left (by decide)), fun _ => rfl, fun h => q3 (h.resolve_left (by decide)), fun h => q4 (h.resolve_left (by decide)), fun h => q5 (h.resolve_left (by decide)), fun h => q6 (h.resolve_left (by decide)), fun h => q7 (h.resolve_left (by decide)), (q8.step (by decide) (by decide))⟩
    refine Inv.AllInv.cons ({ dst := some 8, op := Op.load 3 (Operand.tmp 7), type := 3, pos := "join.go:77", after := #[{ on := 1, ground := Ground.data }], guard := none }) rfl rfl [1] (by kernel_rfl) ?_ ?_
    · intro Q2 u X wv hR hu hd K hK
      obtain ⟨q0, q1, q2, q3, q4, q5, q6, q7, q8⟩ := hR
      have e2 := q2 hd.1
      obtain ⟨c0, c1, c2, c3, c4, c5, c6, c7⟩ := (HI1.out.up q0).eight
      refine ⟨?_⟩
      simp only [Inv.puts, Act.put, List.setIfInBounds_toArray, List.set_cons_zero, List.set_cons_succ] at hK
      simp only [Inv.puts, Act.put, List.setIfInBounds_toArray, List.set_cons_zero, List.set_cons_succ, e2]
      go_simp
      refine hK.out (Inv.upd (Inv.upd X 7 (.pointer (some ⟨m, 5, none⟩))) 8 (.int .i64 (s : Int))) _ ?_
      rw [Inv.upd_same e2]
      exact ⟨q0, fun h => q1 (h.resolve_left (by decide)), fun h => q2 (h.resolve_left (by decide)), fun _ => rfl, fun h => q4 (h.resolve_left (by decide)), fun h => q5 (h.resolve_left (by decide)), fun h => q6 (h.resolve_left (by decide)), fun h => q7 (h.resolve_left (by decide)), (q8.step (by decide) (by decide))⟩
    refine Inv.AllInv.cons ({ dst := some 9, op := Op.nilCheck (Operand.tmp 6), type := 0, pos := "join.go:77", after := #[{ on := 0, ground := Ground.data }], guard := none }) rfl rfl [0] (by kernel_rfl) ?_ ?_
    · intro Q2 u X wv hR hu hd K hK
      obtain ⟨q0, q1, q2, q3, q4, q5, q6, q7, q8⟩ := hR
      have e1 := q1 hd.1
      refine ⟨?_⟩
      simp only [Inv.puts, Act.put, List.setIfInBounds_toArray, List.set_cons_zero, List.set_cons_succ] at hK
      simp only [Inv.puts, Act.put, List.setIfInBounds_toArray, List.set_cons_zero, List.set_cons_succ, e1]
      go_simp
      refine hK.out (Inv.upd (Inv.upd X 6 (.pointer (some ⟨g, 0, none⟩))) 9 (.pointer (some ⟨g, 0, none⟩))) _ ?_
      rw [Inv.upd_same e1]
      exact ⟨q0, fun h => q1 (h.resolve_left (by decide)), fun h => q2 (h.resolve_left (by decide)), fun h => q3 (h.resolve_left (by decide)), fun _ => rfl, fun h => q5 (h.resolve_left (by decide)), fun h => q6 (h.resolve_left (by decide)), fun h => q7 (h.resolve_left (by decide)), (q8.step (by decide) (by decide))⟩
    refine Inv.AllInv.cons ({ dst := some 10, op := Op.fieldAddr 72 (Operand.tmp 9) 3, type := 0, pos := "join.go:77", after := #[{ on := 3, ground := Ground.data }], guard := none }) rfl rfl [3] (by kernel_rfl) ?_ ?_
    · intro Q2 u X wv hR hu hd K hK
      obtain ⟨q0, q1, q2, q3, q4, q5, q6, q7, q8⟩ := hR
      have e4 := q4 hd.1
      refine ⟨?_⟩
      simp only [Inv.puts, Act.put, List.setIfInBounds_toArray, List.set_cons_zero, List.set_cons_succ] at hK
      simp only [Inv.puts, Act.put, List.setIfInBounds_toArray, List.set_cons_zero, List.set_cons_succ, e4]
      go_simp
      refine hK.out (Inv.upd (Inv.upd X 9 (.pointer (some ⟨g, 0, none⟩))) 10 (.pointer (some ⟨g, 422, none⟩))) _ ?_
      rw [Inv.upd_same e4]
      exact ⟨q0, fun h => q1 (h.resolve_left (by decide)), fun h => q2 (h.resolve_left (by decide)), fun h => q3 (h.resolve_left (by decide)), fun h => q4 (h.resolve_left (by decide)), fun _ => rfl, fun h => q6 (h.resolve_left (by decide)), fun h => q7 (h.resolve_left (by decide)), (q8.step (by decide) (by decide))⟩
    refine Inv.AllInv.cons ({ dst := some 11, op := Op.indexAddr 44 (Operand.tmp 10) (Operand.tmp 8), type := 0, pos := "join.go:77", after := #[{ on := 4, ground := Ground.data }, { on := 2, ground := Ground.data }], guard := none }) rfl rfl [4, 2] (by kernel_rfl) ?_ ?_
    · intro Q2 u X wv hR hu hd K hK
      obtain ⟨q0, q1, q2, q3, q4, q5, q6, q7, q8⟩ := hR
      have e3 := q3 hd.2.1
      have e5 := q5 hd.1
      have hd8 := hs'
      refine ⟨?_⟩
      simp only [Inv.puts, Act.put, List.setIfInBounds_toArray, List.set_cons_zero, List.set_cons_succ] at hK
      simp only [Inv.puts, Act.put, List.setIfInBounds_toArray, List.set_cons_zero, List.set_cons_succ, e3, e5]
      go_simp
      refine hK.out (Inv.upd (Inv.upd (Inv.upd X 8 (.int .i64 (s : Int))) 10 (.pointer (some ⟨g, 422, none⟩))) 11 (.pointer (some ⟨g, 422 + s * 4, none⟩))) _ ?_
      rw [Inv.upd_same e3, Inv.upd_same e5]
      exact ⟨q0, fun h => q1 (h.resolve_left (by decide)), fun h => q2 (h.resolve_left (by decide)), fun h => q3 (h.resolve_left (by decide)), fun h => q4 (h.resolve_left (by decide)), fun h => q5 (h.resolve_left (by decide)), fun _ => rfl, fun h => q7 (h.resolve_left (by decide)), (q8.step (by decide) (by decide))⟩
    refine Inv.AllInv.cons ({ dst := some 12, op := Op.load 43 (Operand.tmp 11), type := 43, pos := "join.go:77", after := #[{ on := 5, ground := Ground.data }], guard := none }) rfl rfl [5] (by kernel_rfl) ?_ ?_
    · intro Q2 u X wv hR hu hd K hK
      obtain ⟨q0, q1, q2, q3, q4, q5, q6, q7, q8⟩ := hR
      have e6 := q6 hd.1
      obtain ⟨c0, c1, c2, c3⟩ := (HM1.out.up q0).reg s hsn
      rw [HA.out] at c0 c1 c2 c3
      refine ⟨?_⟩
      simp only [Inv.puts, Act.put, List.setIfInBounds_toArray, List.set_cons_zero, List.set_cons_succ] at hK
      simp only [Inv.puts, Act.put, List.setIfInBounds_toArray, List.set_cons_zero, List.set_cons_succ, e6]
      go_simp
      refine hK.out (Inv.upd (Inv.upd X 11 (.pointer (some ⟨g, 422 + s * 4, none⟩))) 12 (.agg #[.int .i64 A.k, .int .i64 A.t, .int .i64 A.r, .int .i64 A.x])) _ ?_
      rw [Inv.upd_same e6]
      exact ⟨q0, fun h => q1 (h.resolve_left (by decide)), fun h => q2 (h.resolve_left (by decide)), fun h => q3 (h.resolve_left (by decide)), fun h => q4 (h.resolve_left (by decide)), fun h => q5 (h.resolve_left (by decide)), fun h => q6 (h.resolve_left (by decide)), fun _ => rfl, (q8.step (by decide) (by decide))⟩
    refine Inv.AllInv.cons ({ dst := some 5, op := Op.alloc 43, type := 0, pos := "join.go:77", after := #[], guard := none }) rfl rfl [] (by kernel_rfl) ?_ ?_
    · intro Q2 u X wv hR hu hd K hK
      obtain ⟨q0, q1, q2, q3, q4, q5, q6, q7, q8⟩ := hR
      refine ⟨?_⟩
      simp only [Inv.puts, Act.put, List.setIfInBounds_toArray, List.set_cons_zero, List.set_cons_succ] at hK
      simp only [Inv.puts, Act.put, List.setIfInBounds_toArray, List.set_cons_zero, List.set_cons_succ]
      go_simp
      refine hK.out (Inv.upd X 5 (.pointer (some ⟨wv.heap.size, 0, none⟩))) _ ?_
      exact ⟨q0.alloc q0.size _, fun h => q1 (h.resolve_left (by decide)), fun h => q2 (h.resolve_left (by decide)), fun h => q3 (h.resolve_left (by decide)), fun h => q4 (h.resolve_left (by decide)), fun h => q5 (h.resolve_left (by decide)), fun h => q6 (h.resolve_left (by decide)), fun h => q7 (h.resolve_left (by decide)), q8.made hu (by decide) q0.size rfl⟩
    refine Inv.AllInv.cons ({ dst := none, op := Op.store 43 (Operand.tmp 5) (Operand.tmp 12), type := 0, pos := "join.go:77", after := #[{ on := 7, ground := Ground.data }, { on := 6, ground := Ground.data }, { on := 0, ground := Ground.phase }, { on := 1, ground := Ground.phase }, { on := 2, ground := Ground.phase }, { on := 3, ground := Ground.phase }, { on := 4, ground := Ground.phase }, { on := 5, ground := Ground.phase }, { on := 6, ground := Ground.phase }, { on := 7, ground := Ground.phase }], guard := none }) rfl rfl [7, 6, 0, 1, 2, 3, 4, 5, 6, 7] (by kernel_rfl) ?_ ?_
    · intro Q2 u X wv hR hu hd K hK
      obtain ⟨q0, q1, q2, q3, q4, q5, q6, q7, q8⟩ := hR
      have e7 := q7 hd.2.1
      have ha := hd.1
      obtain ⟨g, zs, eX, hg, hz, hBz, -⟩ := q8.2 ha
      obtain ⟨z0, z1, z2, z3, rfl⟩ := arr4_of hz
      obtain ⟨⟨b0, b1, b2, b3⟩, f0, f1, f2, f3⟩ := hBz.four
      have hBx := hBz.set4 (.int .i64 A.k) (.int .i64 A.t) (.int .i64 A.r) (.int .i64 A.x)
      have hT := Touch.set4 (g := g) wv 0 1 2 3 (.int .i64 A.k) (.int .i64 A.t) (.int .i64 A.r) (.int .i64 A.x)
      refine ⟨?_⟩
      simp only [Inv.puts, Act.put, List.setIfInBounds_toArray, List.set_cons_zero, List.set_cons_succ] at hK
      simp only [Inv.puts, Act.put, List.setIfInBounds_toArray, List.set_cons_zero, List.set_cons_succ, e7, eX]
      go_simp
      refine hK.out (Inv.upd (Inv.upd X 12 (.agg #[.int .i64 A.k, .int .i64 A.t, .int .i64 A.r, .int .i64 A.x])) 5 (.pointer (some ⟨g, 0, none⟩))) _ ?_
      rw [Inv.upd_same e7, Inv.upd_same eX]
      exact ⟨below_touch q0 hT hg q0.size, fun h => q1 (h.resolve_left (by decide)), fun h => q2 (h.resolve_left (by decide)), fun h => q3 (h.resolve_left (by decide)), fun h => q4 (h.resolve_left (by decide)), fun h => q5 (h.resolve_left (by decide)), fun h => q6 (h.resolve_left (by decide)), fun h => q7 (h.resolve_left (by decide)), by rw [show _ = _ from eX]; exact SlotM.stored hg ha hBx⟩
    exact Inv.AllInv.nil
  · intro u X wv hd hR
    obtain ⟨q0, q1, q2, q3, q4, q5, q6, q7, q8⟩ := hR
    obtain ⟨u0, u1, u2, u3, u4, u5, u6, u7, u8, -⟩ := hd
    obtain ⟨p0, ep0, hp0, hP0⟩ := q8.full u8
    simp only [Inv.puts, Act.put, List.setIfInBounds_toArray, List.set_cons_zero, List.set_cons_succ, q1 u0, q2 u1, q3 u2, q4 u3, q5 u4, q6 u5, q7 u6, ep0]
    have HQ0 := Lib.hid q0
    clear q0 q1 q2 q3 q4 q5 q6 q7 q8
    clear ep0 u0 u1 u2 u3 u4 u5 u6 u7 u8
    have hM2 := HM1.out.up HQ0.out
    have hI2 := HI1.out.up HQ0.out
    have hT2 := HT1.out.trans (Touch.of_below HQ0.out)
    have hmg : m ≠ g := by omega
    have hpg0 : p0 ≠ g := by have := HI1.out.lt; omega
    clear HM1 HI1 HT1 HQ0 HA hp0
    have HM0 := Lib.hid hM2
    have HI0 := Lib.hid hI2
    have HT0 := Lib.hid hT2
    have HP00 := Lib.hid hP0
    clear hM2 hI2 hT2 hP0
    obtain ⟨c0, c1, c2, c3, c4, c5, c6, c7⟩ := HI0.out.eight
    obtain ⟨⟨x00, x01, x02, x03⟩, -⟩ := HP00.out.four
    cases tA : A.isNum
    · have HE := Lib.hid HL.out
      rw [tA, if_neg Bool.false_ne_true] at HE
      go_wp2_with fail
      go_at_call 76
      refine (isNum_u A false tA _).mono ?_
      rintro e y1 ⟨rfl, hB1⟩
      have HM1 := Lib.hid (HM0.out.up hB1)
      have HI1 := Lib.hid (HI0.out.up hB1)
      have HT1 := Lib.hid (HT0.out.trans (Touch.of_below hB1))
      have HP01 := Lib.hid (HP00.out.up hB1)
      clear hB1
      clear c0 c1 c2 c3 c4 c5 c6 c7 x00 x01 x02 x03
      obtain ⟨c0, c1, c2, c3, c4, c5, c6, c7⟩ := HI1.out.eight
      obtain ⟨⟨x00, x01, x02, x03⟩, -⟩ := HP01.out.four
      go_wp2_with fail
      go_ret
      unfold Went
      rw [HE.out]
      exact ⟨rfl, HM1.out, HT1.out⟩
    · have HE := Lib.hid HL.out
      rw [tA, if_pos rfl] at HE
      go_wp2_with fail
      go_at_call 76
      refine (isNum_u A true tA _).mono ?_
      rintro e y1 ⟨rfl, hB1⟩
      have HM1 := Lib.hid (HM0.out.up hB1)
      have HI1 := Lib.hid (HI0.out.up hB1)
      have HT1 := Lib.hid (HT0.out.trans (Touch.of_below hB1))
      have HP01 := Lib.hid (HP00.out.up hB1)
      clear hB1
      clear c0 c1 c2 c3 c4 c5 c6 c7 x00 x01 x02 x03
      obtain ⟨c0, c1, c2, c3, c4, c5, c6, c7⟩ := HI1.out.eight
      obtain ⟨⟨x00, x01, x02, x03⟩, -⟩ := HP01.out.four
      have HX := Lib.hid (fun w => extend_t size nar A.x w)
      generalize extF size nar A.x = R at *
      go_wp2_with fail
      go_region_held3 (fun w' => w'.cell? ⟨m, 4, none⟩ = some (.int .i64 (d : Int)) ∧ w'.cell? ⟨m, 3, none⟩ = some (.int .i64 size) ∧ w'.cell? ⟨m, 1, none⟩ = some (.bool nar) ∧ w'.cell? ⟨p0, 3, none⟩ = some (.int .i64 A.x))
        (first | exact ⟨(HI1.out.drew).cell 4, (HI1.out.drew).cell 3, (HI1.out.drew).cell 1, (HP01.out.drew).cell 3⟩ | exact ⟨(HI1.out.drew.up hBn).cell 4, (HI1.out.drew.up hBn).cell 3, (HI1.out.drew.up hBn).cell 1, (HP01.out.drew.up hBn).cell 3⟩ | exact ⟨((HI1.out.drew.up hBn).touch hTz hmg).cell 4, ((HI1.out.drew.up hBn).touch hTz hmg).cell 3, ((HI1.out.drew.up hBn).touch hTz hmg).cell 1, ((HP01.out.drew.up hBn).touch hTz hpg0).cell 3⟩ | fail)
        (first | (go_at_call 24; refine (num_u (R) _).mono ?_; rintro e yn ⟨rfl, hBn⟩; have HMn := Lib.hid (HM1.out.drw.up hBn)) | (go_at_call 80; refine (set_v HMn.out hp d hdn 1 0 0 (R)).mono ?_; rintro e yz ⟨rfl, hMz, hTz⟩) | (go_at_call 82; refine (HX.out _).mono ?_; rintro e yx ⟨rfl, rfl⟩))
      go_wp2_with fail
      go_ret
      unfold Went
      rw [HE.out]
      exact ⟨rfl, hMz, (HT1.out.drw.trans (Touch.of_below hBn)).trans hTz⟩
/-- what holds, whatever has come up -/
def SwapR (w1 : World) (g m d : Nat) (A : V) (u : Nat → Prop) (X : Tmp → Value) (w : World) : Prop :=
  Below w1.heap.size w1 w ∧
  (u 0 → X 6 = .pointer (some ⟨g, 0, none⟩)) ∧
  (u 1 → X 7 = .pointer (some ⟨m, 4, none⟩)) ∧
  (u 2 → X 8 = .int .i64 (d : Int)) ∧
  (u 3 → X 9 = .pointer (some ⟨g, 0, none⟩)) ∧
  (u 4 → X 10 = .pointer (some ⟨g, 422, none⟩)) ∧
  (u 5 → X 11 = .pointer (some ⟨g, 422 + d * 4, none⟩)) ∧
  (u 6 → X 12 = .agg #[.int .i64 A.k, .int .i64 A.t, .int .i64 A.r, .int .i64 A.x]) ∧
  SlotM w1.heap.size 43 (u 7) (u 8) (X 5) w #[.int .i64 A.k, .int .i64 A.t, .int .i64 A.r, .int .i64 A.x]

set_option maxHeartbeats 4000000 in
theorem swapI_v {w : World} {base g : Nat} {P : Pg} {S : St} {vc vk vg vn : Value} (h : Mem w base g P S vc vk vg vn) (hp : S.pc < 1048576) (op : Int) (nar reg : Bool) (size dst src off imm : Int) (hd0 : 0 ≤ dst ∧ dst < 11) :
    Calls Tryz.prog 56 #[.pointer (some ⟨g, 0, none⟩), .agg #[.int .i64 op, .bool nar, .bool reg, .int .i64 size, .int .i64 dst, .int .i64 src, .int .i64 off, .int .i64 imm]] w (Went base g P vc vk vg vn (swapL P S ⟨op, nar, reg, size, dst, src, off, imm⟩) w) := by
  obtain ⟨d, rfl⟩ := Int.eq_ofNat_of_zero_le hd0.1
  have hdn : d < 11 := by omega
  have hd' : (d : Int) < 11 := by omega
  obtain ⟨A, hA⟩ : ∃ A, S.regs d = A := ⟨_, rfl⟩
  have HL := Lib.hid (show swapL P S ⟨op, nar, reg, size, d, src, off, imm⟩ = if A.isNum = true then setL P S d (V.num (swapF size (op != 17) A.x)) else (80, S) by unfold swapL; simp only [Int.toNat_natCast]; rw [hA])
  have HA := Lib.hid hA
  have hM1 := h.alloc (.cells #[.int .i64 op, .bool nar, .bool reg, .int .i64 size, .int .i64 d, .int .i64 src, .int .i64 off, .int .i64 imm] 57)
  have hI1 := Blk.new w 57 #[.int .i64 op, .bool nar, .bool reg, .int .i64 size, .int .i64 d, .int .i64 src, .int .i64 off, .int .i64 imm]
  have hT1 := Touch.alloc (g := g) w (.cells #[.int .i64 op, .bool nar, .bool reg, .int .i64 size, .int .i64 d, .int .i64 src, .int .i64 off, .int .i64 imm] 57)
  have hgm := h.fb.lt
  clear h
  go_enter Tryz.func56, Tryz.ntmps56
  go_upto_region 1 with (fail)
  generalize (w.alloc (.cells #[.int .i64 op, .bool nar, .bool reg, .int .i64 size, .int .i64 d, .int .i64 src, .int .i64 off, .int .i64 imm] 57)) = w1 at *
  generalize w.heap.size = m at *
  have HM1 := Lib.hid hM1
  have HI1 := Lib.hid hI1
  have HT1 := Lib.hid hT1
  clear hM1 hI1 hT1 hA hd0
  refine Inv.wp_region_inv [5, 6, 7, 8, 9, 10, 11, 12] (SwapR w1 g m d A) (by kernel_rfl) (by kernel_rfl) [0, 1, 2, 3, 4, 5, 6, 7, 8] (by kernel_rfl) ?_ ?_ ?_
  · exact ⟨bdrw (Below.refl _ _), fun h => h.elim, fun h => h.elim, fun h => h.elim, fun h => h.elim, fun h => h.elim, fun h => h.elim, fun h => h.elim, SlotM.no⟩
  · refine Inv.AllInv.cons ({ dst := some 6, op := Op.move (Operand.tmp 0), type := 31, pos := "join.go:86", after := #[], guard := none }) rfl rfl [] (by kernel_rfl) ?_ ?_
    · intro Q2 u X wv hR hu hd K hK
      obtain ⟨q0, q1, q2, q3, q4, q5, q6, q7, q8⟩ := hR
      refine ⟨?_⟩
      simp only [Inv.puts, Act.put, List.setIfInBounds_toArray, List.set_cons_zero, List.set_cons_succ] at hK
      simp only [Inv.puts, Act.put, List.setIfInBounds_toArray, List.set_cons_zero, List.set_cons_succ]
      go_simp
      refine hK.out (Inv.upd X 6 (.pointer (some ⟨g, 0, none⟩))) _ ?_
      exact ⟨q0, fun _ => rfl, fun h => q2 (h.resolve_left (by decide)), fun h => q3 (h.resolve_left (by decide)), fun h => q4 (h.resolve_left (by decide)), fun h => q5 (h.resolve_left (by decide)), fun h => q6 (h.resolve_left (by decide)), fun h => q7 (h.resolve_left (by decide)), (q8.step (by decide) (by decide))⟩
    refine Inv.AllInv.cons ({ dst := some 7, op := Op.fieldAddr 57 (Operand.tmp 3) 4, type := 0, pos := "join.go:86", after := #[], guard := none }) rfl rfl [] (by kernel_rfl) ?_ ?_
    · intro Q2 u X wv hR hu hd K hK
      obtain ⟨q0, q1, q2, q3, q4, q5, q6, q7, q8⟩ := hR
      refine ⟨?_⟩
      simp only [Inv.puts, Act.put, List.setIfInBounds_toArray, List.set_cons_zero, List.set_cons_succ] at hK
      simp only [Inv.puts, Act.put, List.setIfInBounds_toArray, List.set_cons_zero, List.set_cons_succ]
      go_simp
      refine hK.out (Inv.upd X 7 (.pointer (some ⟨m, 4, none⟩))) _ ?_
      exact ⟨q0, fun h => q1 (h.resolve_left (by decide)), fun _ => rfl, fun h => q3 (h.resolve_left (by decide)), fun h => q4 (h.resolve_left (by decide)), fun h => q5 (h.resolve_left (by decide)), fun h => q6 (h.resolve_left (by decide)), fun h => q7 (h.resolve_left (by decide)), (q8.step (by decide) (by decide))⟩
    refine Inv.AllInv.cons ({ dst := some 8, op := Op.load 3 (Operand.tmp 7), type := 3, pos := "join.go:86", after := #[{ on := 1, ground := Ground.data }], guard := none }) rfl rfl [1] (by kernel_rfl) ?_ ?_
    · intro Q2 u X wv hR hu hd K hK
      obtain ⟨q0, q1, q2, q3, q4, q5, q6, q7, q8⟩ := hR
      have e2 := q2 hd.1
      obtain ⟨c0, c1, c2, c3, c4, c5, c6, c7⟩ := (HI1.out.up q0).eight
      refine ⟨?_⟩
      simp only [Inv.puts, Act.put, List.setIfInBounds_toArray, List.set_cons_zero, List.set_cons_succ] at hK
      simp only [Inv.puts, Act.put, List.setIfInBounds_toArray, List.set_cons_zero, List.set_cons_succ, e2]
      go_simp
      refine hK.out (Inv.upd (Inv.upd X 7 (.pointer (some ⟨m, 4, none⟩))) 8 (.int .i64 (d : Int))) _ ?_
      rw [Inv.upd_same e2]
      exact ⟨q0, fun h => q1 (h.resolve_left (by decide)), fun h => q2 (h.resolve_left (by decide)), fun _ => rfl, fun h => q4 (h.resolve_left (by decide)), fun h => q5 (h.resolve_left (by decide)), fun h => q6 (h.resolve_left (by decide)), fun h => q7 (h.resolve_left (by decide)), (q8.step (by decide) (by decide))⟩
    refine Inv.AllInv.cons ({ dst := some 9, op := Op.nilCheck (Operand.tmp 6), type := 0, pos := "join.go:86", after := #[{ on := 0, ground := Ground.data }], guard := none }) rfl rfl [0] (by kernel_rfl) ?_ ?_
    · intro Q2 u X wv hR hu hd K hK
      obtain ⟨q0, q1, q2, q3, q4, q5, q6, q7, q8⟩ := hR
      have e1 := q1 hd.1
      refine ⟨?_⟩
      simp only [Inv.puts, Act.put, List.setIfInBounds_toArray, List.set_cons_zero, List.set_cons_succ] at hK
      simp only [Inv.puts, Act.put, List.setIfInBounds_toArray, List.set_cons_zero, List.set_cons_succ, e1]
      go_simp
      refine hK.out (Inv.upd (Inv.upd X 6 (.pointer (some ⟨g, 0, none⟩))) 9 (.pointer (some ⟨g, 0, none⟩))) _ ?_
      rw [Inv.upd_same e1]
      exact ⟨q0, fun h => q1 (h.resolve_left (by decide)), fun h => q2 (h.resolve_left (by decide)), fun h => q3 (h.resolve_left (by decide)), fun _ => rfl, fun h => q5 (h.resolve_left (by decide)), fun h => q6 (h.resolve_left (by decide)), fun h => q7 (h.resolve_left (by decide)), (q8.step (by decide) (by decide))⟩
    refine Inv.AllInv.cons ({ dst := some 10, op := Op.fieldAddr 72 (Operand.tmp 9) 3, type := 0, pos := "join.go:86", after := #[{ on := 3, ground := Ground.data }], guard := none }) rfl rfl [3] (by kernel_rfl) ?_ ?_
    · intro Q2 u X wv hR hu hd K hK
      obtain ⟨q0, q1, q2, q3, q4, q5, q6, q7, q8⟩ := hR
      have e4 := q4 hd.1
      refine ⟨?_⟩
      simp only [Inv.puts, Act.put, List.setIfInBounds_toArray, List.set_cons_zero, List.set_cons_succ] at hK
      simp only [Inv.puts, Act.put, List.setIfInBounds_toArray, List.set_cons_zero, List.set_cons_succ, e4]
      go_simp
      refine hK.out (Inv.upd (Inv.upd X 9 (.pointer (some ⟨g, 0, none⟩))) 10 (.pointer (some ⟨g, 422, none⟩))) _ ?_
      rw [Inv.upd_same e4]
      exact ⟨q0, fun h => q1 (h.resolve_left (by decide)), fun h => q2 (h.resolve_left (by decide)), fun h => q3 (h.resolve_left (by decide)), fun h => q4 (h.resolve_left (by decide)), fun _ => rfl, fun h => q6 (h.resolve_left (by decide)), fun h => q7 (h.resolve_left (by decide)), (q8.step (by decide) (by decide))⟩
    refine Inv.AllInv.cons ({ dst := some 11, op := Op.indexAddr 44 (Operand.tmp 10) (Operand.tmp 8), type := 0, pos := "join.go:86", after := #[{ on := 4, ground := Ground.data }, { on := 2, ground := Ground.data }], guard := none }) rfl rfl [4, 2] (by kernel_rfl) ?_ ?_
    · intro Q2 u X wv hR hu hd K hK
      obtain ⟨q0, q1, q2, q3, q4, q5, q6, q7, q8⟩ := hR
      have e3 := q3 hd.2.1
      have e5 := q5 hd.1
      have hd8 := hd'
      refine ⟨?_⟩
      simp only [Inv.puts, Act.put, List.setIfInBounds_toArray, List.set_cons_zero, List.set_cons_succ] at hK
      simp only [Inv.puts, Act.put, List.setIfInBounds_toArray, List.set_cons_zero, List.set_cons_succ, e3, e5]
      go_simp
      refine hK.out (Inv.upd (Inv.upd (Inv.upd X 8 (.int .i64 (d : Int))) 10 (.pointer (some ⟨g, 422, none⟩))) 11 (.pointer (some ⟨g, 422 + d * 4, none⟩))) _ ?_
      rw [Inv.upd_same e3, Inv.upd_same e5]
      exact ⟨q0, fun h => q1 (h.resolve_left (by decide)), fun h => q2 (h.resolve_left (by decide)), fun h => q3 (h.resolve_left (by decide)), fun h => q4 (h.resolve_left (by decide)), fun h => q5 (h.resolve_left (by decide)), fun _ => rfl, fun h => q7 (h.resolve_left (by decide)), (q8.step (by decide) (by decide))⟩
    refine Inv.AllInv.cons ({ dst := some 12, op := Op.load 43 (Operand.tmp 11), type := 43, pos := "join.go:86", after := #[{ on := 5, ground := Ground.data }], guard := none }) rfl rfl [5] (by kernel_rfl) ?_ ?_
    · intro Q2 u X wv hR hu hd K hK
      obtain ⟨q0, q1, q2, q3, q4, q5, q6, q7, q8⟩ := hR
      have e6 := q6 hd.1
      obtain ⟨c0, c1, c2, c3⟩ := (HM1.out.up q0).reg d hdn
      rw [HA.out] at c0 c1 c2 c3
      refine ⟨?_⟩
      simp only [Inv.puts, Act.put, List.setIfInBounds_toArray, List.set_cons_zero, List.set_cons_succ] at hK
      simp only [Inv.puts, Act.put, List.setIfInBounds_toArray, List.set_cons_zero, List.set_cons_succ, e6]
      go_simp
      refine hK.out (Inv.upd (Inv.upd X 11 (.pointer (some ⟨g, 422 + d * 4, none⟩))) 12 (.agg #[.int .i64 A.k, .int .i64 A.t, .int .i64 A.r, .int .i64 A.x])) _ ?_
      rw [Inv.upd_same e6]
      exact ⟨q0, fun h => q1 (h.resolve_left (by decide)), fun h => q2 (h.resolve_left (by decide)), fun h => q3 (h.resolve_left (by decide)), fun h => q4 (h.resolve_left (by decide)), fun h => q5 (h.resolve_left (by decide)), fun h => q6 (h.resolve_left (by decide)), fun _ => rfl, (q8.step (by decide) (by decide))⟩
    refine Inv.AllInv.cons ({ dst := some 5, op := Op.alloc 43, type := 0, pos := "join.go:86", after := #[], guard := none }) rfl rfl [] (by kernel_rfl) ?_ ?_
    · intro Q2 u X wv hR hu hd K hK
      obtain ⟨q0, q1, q2, q3, q4, q5, q6, q7, q8⟩ := hR
      refine ⟨?_⟩
      simp only [Inv.puts, Act.put, List.setIfInBounds_toArray, List.set_cons_zero, List.set_cons_succ] at hK
      simp only [Inv.puts, Act.put, List.setIfInBounds_toArray, List.set_cons_zero, List.set_cons_succ]
      go_simp
      refine hK.out (Inv.upd X 5 (.pointer (some ⟨wv.heap.size, 0, none⟩))) _ ?_
      exact ⟨q0.alloc q0.size _, fun h => q1 (h.resolve_left (by decide)), fun h => q2 (h.resolve_left (by decide)), fun h => q3 (h.resolve_left (by decide)), fun h => q4 (h.resolve_left (by decide)), fun h => q5 (h.resolve_left (by decide)), fun h => q6 (h.resolve_left (by decide)), fun h => q7 (h.resolve_left (by decide)), q8.made hu (by decide) q0.size rfl⟩
    refine Inv.AllInv.cons ({ dst := none, op := Op.store 43 (Operand.tmp 5) (Operand.tmp 12), type := 0, pos := "join.go:86", after := #[{ on := 7, ground := Ground.data }, { on := 6, ground := Ground.data }, { on := 0, ground := Ground.phase }, { on := 1, ground := Ground.phase }, { on := 2, ground := Ground.phase }, { on := 3, ground := Ground.phase }, { on := 4, ground := Ground.phase }, { on := 5, ground := Ground.phase }, { on := 6, ground := Ground.phase }, { on := 7, ground := Ground.phase }], guard := none }) rfl rfl [7, 6, 0, 1, 2, 3, 4, 5, 6, 7] (by kernel_rfl) ?_ ?_
    · intro Q2 u X wv hR hu hd K hK
      obtain ⟨q0, q1, q2, q3, q4, q5, q6, q7, q8⟩ := hR
      have e7 := q7 hd.2.1
      have ha := hd.1
      obtain ⟨g, zs, eX, hg, hz, hBz, -⟩ := q8.2 ha
      obtain ⟨z0, z1, z2, z3, rfl⟩ := arr4_of hz
      obtain ⟨⟨b0, b1, b2, b3⟩, f0, f1, f2, f3⟩ := hBz.four
      have hBx := hBz.set4 (.int .i64 A.k) (.int .i64 A.t) (.int .i64 A.r) (.int .i64 A.x)
      have hT := Touch.set4 (g := g) wv 0 1 2 3 (.int .i64 A.k) (.int .i64 A.t) (.int .i64 A.r) (.int .i64 A.x)
      refine ⟨?_⟩
      simp only [Inv.puts, Act.put, List.setIfInBounds_toArray, List.set_cons_zero, List.set_cons_succ] at hK
      simp only [Inv.puts, Act.put, List.setIfInBounds_toArray, List.set_cons_zero, List.set_cons_succ, e7, eX]
      go_simp
      refine hK.out (Inv.upd (Inv.upd X 12 (.agg #[.int .i64 A.k, .int .i64 A.t, .int .i64 A.r, .int .i64 A.x])) 5 (.pointer (some ⟨g, 0, none⟩))) _ ?_
      rw [Inv.upd_same e7, Inv.upd_same eX]
      exact ⟨below_touch q0 hT hg q0.size, fun h => q1 (h.resolve_left (by decide)), fun h => q2 (h.resolve_left (by decide)), fun h => q3 (h.resolve_left (by decide)), fun h => q4 (h.resolve_left (by decide)), fun h => q5 (h.resolve_left (by decide)), fun h => q6 (h.resolve_left (by decide)), fun h => q7 (h.resolve_left (by decide)), by rw [show _ = _ from eX]; exact SlotM.stored hg ha hBx⟩
    exact Inv.AllInv.nil
  · intro u X wv hd hR
    obtain ⟨q0, q1, q2, q3, q4, q5, q6, q7, q8⟩ := hR
    obtain ⟨u0, u1, u2, u3, u4, u5, u6, u7, u8, -⟩ := hd
    obtain ⟨p0, ep0, hp0, hP0⟩ := q8.full u8
    simp only [Inv.puts, Act.put, List.setIfInBounds_toArray, List.set_cons_zero, List.set_cons_succ, q1 u0, q2 u1, q3 u2, q4 u3, q5 u4, q6 u5, q7 u6, ep0]
    have HQ0 := Lib.hid q0
    clear q0 q1 q2 q3 q4 q5 q6 q7 q8
    clear ep0 u0 u1 u2 u3 u4 u5 u6 u7 u8
    have hM2 := HM1.out.up HQ0.out
    have hI2 := HI1.out.up HQ0.out
    have hT2 := HT1.out.trans (Touch.of_below HQ0.out)
    have hmg : m ≠ g := by omega
    have hpg0 : p0 ≠ g := by have := HI1.out.lt; omega
    clear HM1 HI1 HT1 HQ0 HA hp0
    have HM0 := Lib.hid hM2
    have HI0 := Lib.hid hI2
    have HT0 := Lib.hid hT2
    have HP00 := Lib.hid hP0
    clear hM2 hI2 hT2 hP0
    obtain ⟨c0, c1, c2, c3, c4, c5, c6, c7⟩ := HI0.out.eight
    obtain ⟨⟨x00, x01, x02, x03⟩, -⟩ := HP00.out.four
    cases tA : A.isNum
    · have HE := Lib.hid HL.out
      rw [tA, if_neg Bool.false_ne_true] at HE
      go_wp2_with fail
      go_at_call 76
      refine (isNum_u A false tA _).mono ?_
      rintro e y1 ⟨rfl, hB1⟩
      have HM1 := Lib.hid (HM0.out.up hB1)
      have HI1 := Lib.hid (HI0.out.up hB1)
      have HT1 := Lib.hid (HT0.out.trans (Touch.of_below hB1))
      have HP01 := Lib.hid (HP00.out.up hB1)
      clear hB1
      clear c0 c1 c2 c3 c4 c5 c6 c7 x00 x01 x02 x03
      obtain ⟨c0, c1, c2, c3, c4, c5, c6, c7⟩ := HI1.out.eight
      obtain ⟨⟨x00, x01, x02, x03⟩, -⟩ := HP01.out.four
      go_wp2_with fail
      go_ret
      unfold Went
      rw [HE.out]
      exact ⟨rfl, HM1.out, HT1.out⟩
    · have HE := Lib.hid HL.out
      rw [tA, if_pos rfl] at HE
      go_wp2_with fail
      go_at_call 76
      refine (isNum_u A true tA _).mono ?_
      rintro e y1 ⟨rfl, hB1⟩
      have HM1 := Lib.hid (HM0.out.up hB1)
      have HI1 := Lib.hid (HI0.out.up hB1)
      have HT1 := Lib.hid (HT0.out.trans (Touch.of_below hB1))
      have HP01 := Lib.hid (HP00.out.up hB1)
      clear hB1
      clear c0 c1 c2 c3 c4 c5 c6 c7 x00 x01 x02 x03
      obtain ⟨c0, c1, c2, c3, c4, c5, c6, c7⟩ := HI1.out.eight
      obtain ⟨⟨x00, x01, x02, x03⟩, -⟩ := HP01.out.four
      have HX := Lib.hid (fun w => swap_t size (!(op == 17)) A.x w)
      have HR := Lib.hid (show swapF size (op != 17) A.x = swapF size (!(op == 17)) A.x from rfl)
      rw [HR.out] at HE
      clear HR
      generalize swapF size (!(op == 17)) A.x = R at *
      go_wp2_with fail
      go_region_held3 (fun w' => w'.cell? ⟨m, 4, none⟩ = some (.int .i64 (d : Int)) ∧ w'.cell? ⟨m, 3, none⟩ = some (.int .i64 size) ∧ w'.cell? ⟨m, 0, none⟩ = some (.int .i64 op) ∧ w'.cell? ⟨p0, 3, none⟩ = some (.int .i64 A.x))
        (first | exact ⟨(HI1.out.drew).cell 4, (HI1.out.drew).cell 3, (HI1.out.drew).cell 0, (HP01.out.drew).cell 3⟩ | exact ⟨(HI1.out.drew.up hBn).cell 4, (HI1.out.drew.up hBn).cell 3, (HI1.out.drew.up hBn).cell 0, (HP01.out.drew.up hBn).cell 3⟩ | exact ⟨((HI1.out.drew.up hBn).touch hTz hmg).cell 4, ((HI1.out.drew.up hBn).touch hTz hmg).cell 3, ((HI1.out.drew.up hBn).touch hTz hmg).cell 0, ((HP01.out.drew.up hBn).touch hTz hpg0).cell 3⟩ | fail)
        (first | (go_at_call 24; refine (num_u (R) _).mono ?_; rintro e yn ⟨rfl, hBn⟩; have HMn := Lib.hid (HM1.out.drw.up hBn)) | (go_at_call 80; refine (set_v HMn.out hp d hdn 1 0 0 (R)).mono ?_; rintro e yz ⟨rfl, hMz, hTz⟩) | (go_at_call 83; refine (HX.out _).mono ?_; rintro e yx ⟨rfl, rfl⟩))
      go_wp2_with fail
      go_ret
      unfold Went
      rw [HE.out]
      exact ⟨rfl, hMz, (HT1.out.drw.trans (Touch.of_below hBn)).trans hTz⟩
set_option maxHeartbeats 4000000 in
theorem mov_v {w : World} {base g : Nat} {P : Pg} {S : St} {vc vk vg vn : Value} (h : Mem w base g P S vc vk vg vn) (hp : S.pc < 1048576) (op : Int) (nar reg : Bool) (size dst src off imm : Int) (hd0 : 0 ≤ dst ∧ dst < 11) (hs : reg = true → 0 ≤ src ∧ src < 11) :
    Calls Tryz.prog 54 #[.pointer (some ⟨g, 0, none⟩), .agg #[.int .i64 op, .bool nar, .bool reg, .int .i64 size, .int .i64 dst, .int .i64 src, .int .i64 off, .int .i64 imm]] w (Went base g P vc vk vg vn (movL P S ⟨op, nar, reg, size, dst, src, off, imm⟩) w) := by
  obtain ⟨d, rfl⟩ := Int.eq_ofNat_of_zero_le hd0.1
  have hdn : d < 11 := by omega
  have hd' : (d : Int) < 11 := by omega
  obtain ⟨B, hB⟩ : ∃ B, secL S ⟨op, nar, reg, size, d, src, off, imm⟩ = B := ⟨_, rfl⟩
  have HL := Lib.hid (show movL P S ⟨op, nar, reg, size, d, src, off, imm⟩ = if (nar && B.isNum) = true then setL P S d (V.num (aluR op true 0 B.x)) else if (nar || B.k == 0) = true then (80, S) else setL P S d B by unfold movL; simp only [Int.toNat_natCast]; rw [hB])
  have hM1 := h.alloc (.cells #[.int .i64 op, .bool nar, .bool reg, .int .i64 size, .int .i64 d, .int .i64 src, .int .i64 off, .int .i64 imm] 57)
  have hI1 := Blk.new w 57 #[.int .i64 op, .bool nar, .bool reg, .int .i64 size, .int .i64 d, .int .i64 src, .int .i64 off, .int .i64 imm]
  have hT1 := Touch.alloc (g := g) w (.cells #[.int .i64 op, .bool nar, .bool reg, .int .i64 size, .int .i64 d, .int .i64 src, .int .i64 off, .int .i64 imm] 57)
  have hgm := h.fb.lt
  clear h
  go_enter Tryz.func54, Tryz.ntmps54
  go_upto_region 1 with (fail)
  generalize (w.alloc (.cells #[.int .i64 op, .bool nar, .bool reg, .int .i64 size, .int .i64 d, .int .i64 src, .int .i64 off, .int .i64 imm] 57)) = w1 at *
  generalize w.heap.size = m at *
  have HS := Lib.hid (second_u hM1 op nar reg size d src off imm hs B hB)
  obtain ⟨c0, c1, c2, c3, c4, c5, c6, c7⟩ := hI1.eight
  have HM1 := Lib.hid hM1
  have HI1 := Lib.hid hI1
  have HT1 := Lib.hid hT1
  have hmg : m ≠ g := by omega
  clear hM1 hI1 hT1 hB hd0
  go_upto_region 2 with (go_at_call 74; refine HS.out.mono ?_; rintro e y0 ⟨rfl, hB0⟩)
  have hB1 := hB0.trans ((box1 y0 (.cells #[.int .i64 B.k, .int .i64 B.t, .int .i64 B.r, .int .i64 B.x] 43)).mono hB0.size)
  have hM2 := HM1.out.up hB1
  have hI2 := HI1.out.up hB1
  have hT2 := HT1.out.trans (Touch.of_below hB1)
  have hP0 := Blk.new y0 43 #[.int .i64 B.k, .int .i64 B.t, .int .i64 B.r, .int .i64 B.x]
  have hpg0 : y0.heap.size ≠ g := by have := HI1.out.lt; have := hB0.size; omega
  clear HM1 HI1 HT1 HS hB0 hB1 c0 c1 c2 c3 c4 c5 c6 c7
  generalize (y0.alloc (.cells #[.int .i64 B.k, .int .i64 B.t, .int .i64 B.r, .int .i64 B.x] 43)) = wv at *
  generalize y0.heap.size = p0 at *

  have HM0 := Lib.hid hM2
  have HI0 := Lib.hid hI2
  have HT0 := Lib.hid hT2
  have HP00 := Lib.hid hP0
  clear hM2 hI2 hT2 hP0
  obtain ⟨c0, c1, c2, c3, c4, c5, c6, c7⟩ := HI0.out.eight
  obtain ⟨⟨x00, x01, x02, x03⟩, -⟩ := HP00.out.four
  cases nar
  · cases tB : (B.k == 0)
    · have HE := Lib.hid HL.out
      rw [tB] at HE
      simp only [Bool.false_and, Bool.or_false, Bool.false_eq_true, if_false] at HE
      go_wp2_with fail
      go_at_call 80
      refine (set_u HM0.out hp d hdn B).mono ?_
      rintro e yz ⟨rfl, hMz, hTz⟩
      go_wp2_with fail
      go_ret
      unfold Went
      rw [HE.out]
      exact ⟨rfl, hMz, HT0.out.trans hTz⟩
    · have HE := Lib.hid HL.out
      rw [tB] at HE
      simp only [Bool.false_and, Bool.or_true, Bool.false_eq_true, if_false, if_true] at HE
      go_wp2_with fail
      go_ret
      unfold Went
      rw [HE.out]
      exact ⟨rfl, HM0.out, HT0.out⟩
  · cases tB : B.isNum
    · have HE := Lib.hid HL.out
      rw [tB] at HE
      simp only [Bool.and_false, Bool.true_or, Bool.false_eq_true, if_false, if_true] at HE
      go_wp2_with fail
      go_at_call 76
      refine (isNum_u B false tB _).mono ?_
      rintro e y1 ⟨rfl, hB1⟩
      have HM1 := Lib.hid (HM0.out.up hB1)
      have HI1 := Lib.hid (HI0.out.up hB1)
      have HT1 := Lib.hid (HT0.out.trans (Touch.of_below hB1))
      have HP01 := Lib.hid (HP00.out.up hB1)
      clear hB1
      clear c0 c1 c2 c3 c4 c5 c6 c7 x00 x01 x02 x03
      obtain ⟨c0, c1, c2, c3, c4, c5, c6, c7⟩ := HI1.out.eight
      obtain ⟨⟨x00, x01, x02, x03⟩, -⟩ := HP01.out.four
      go_wp2_with fail
      go_ret
      unfold Went
      rw [HE.out]
      exact ⟨rfl, HM1.out, HT1.out⟩
    · have HE := Lib.hid HL.out
      rw [tB] at HE
      simp only [Bool.and_true, if_true] at HE
      go_wp2_with fail
      go_at_call 76
      refine (isNum_u B true tB _).mono ?_
      rintro e y1 ⟨rfl, hB1⟩
      have HM1 := Lib.hid (HM0.out.up hB1)
      have HI1 := Lib.hid (HI0.out.up hB1)
      have HT1 := Lib.hid (HT0.out.trans (Touch.of_below hB1))
      have HP01 := Lib.hid (HP00.out.up hB1)
      clear hB1
      clear c0 c1 c2 c3 c4 c5 c6 c7 x00 x01 x02 x03
      obtain ⟨c0, c1, c2, c3, c4, c5, c6, c7⟩ := HI1.out.eight
      obtain ⟨⟨x00, x01, x02, x03⟩, -⟩ := HP01.out.four
      have HAl := Lib.hid (fun w => alu_any op true 0 B.x w)
      go_wp2_with fail
      go_at_call 81
      refine (HAl.out _).mono ?_
      rintro e y2 ⟨rfl, hB2⟩
      have HM2 := Lib.hid (HM1.out.up hB2)
      have HI2 := Lib.hid (HI1.out.up hB2)
      have HT2 := Lib.hid (HT1.out.trans (Touch.of_below hB2))
      have HP02 := Lib.hid (HP01.out.up hB2)
      clear hB2
      clear c0 c1 c2 c3 c4 c5 c6 c7 x00 x01 x02 x03
      obtain ⟨c0, c1, c2, c3, c4, c5, c6, c7⟩ := HI2.out.eight
      obtain ⟨⟨x00, x01, x02, x03⟩, -⟩ := HP02.out.four
      clear HAl
      generalize aluR op true 0 B.x = R at *
      go_wp2_with fail
      go_region_held3 (fun w' => w'.cell? ⟨m, 4, none⟩ = some (.int .i64 (d : Int)))
        (first | exact (HI2.out.drew).cell 4 | exact (HI2.out.drew.up hBn).cell 4 | exact ((HI2.out.drew.up hBn).touch hTz hmg).cell 4 | fail)
        (first | (go_at_call 24; refine (num_u (R) _).mono ?_; rintro e yn ⟨rfl, hBn⟩; have HMn := Lib.hid (HM2.out.drw.up hBn)) | (go_at_call 80; refine (set_v HMn.out hp d hdn 1 0 0 (R)).mono ?_; rintro e yz ⟨rfl, hMz, hTz⟩))
      go_wp2_with fail
      go_ret
      unfold Went
      rw [HE.out]
      exact ⟨rfl, hMz, (HT2.out.drw.trans (Touch.of_below hBn)).trans hTz⟩
end Go.Proofs.YtpigkppnelnhiaaGreat
