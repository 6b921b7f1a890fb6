/- Package mach: add, sub. Written by gen_mcg.py. -/
import Derived.Test.YtpigkppnelnhiaaGreatMcF
namespace Go.Proofs.YtpigkppnelnhiaaGreat
open Go.ChangeShapes Go.WideShapes Go.ChangeAt Go.RowKit
set_option linter.unusedVariables false
set_option linter.unusedSimpArgs false
set_option maxRecDepth 100000
theorem ptr_num {v : V} (h : v.isPtr = true) : v.isNum = false := by
  unfold V.isPtr V.isFix at h
  unfold V.isNum
  cases e : (v.k == 1)
  · rfl
  · have := eq_of_beq e
    rw [this] at h
    simp at h
theorem fix_ptr {v : V} (h : v.isPtr = false) : v.isFix = false := by
  unfold V.isPtr at h
  cases e : v.isFix
  · rfl
  · rw [e] at h; simp at h

theorem dist_rng (n : Int) : -2097153 ≤ distL n ∧ distL n ≤ 2097153 := by unfold distL; omega

/-- what holds, whatever has come up -/
def AddR (w1 : World) (g m d : Nat) (op : Int) (nar reg : Bool) (size src off imm : Int) (A B : V) (u : Nat → Prop) (X : Tmp → Value) (w : World) : Prop :=
  Below w1.heap.size w1 w ∧
  (u 0 → X 7 = .pointer (some ⟨g, 0, none⟩)) ∧
  (u 1 → X 8 = .pointer (some ⟨m, 4, none⟩)) ∧
  (u 2 → X 9 = .int .i64 (d : Int)) ∧
  (u 3 → X 10 = .pointer (some ⟨g, 0, none⟩)) ∧
  (u 4 → X 11 = .pointer (some ⟨g, 422, none⟩)) ∧
  (u 5 → X 12 = .pointer (some ⟨g, 422 + d * 4, none⟩)) ∧
  (u 6 → X 13 = .agg #[.int .i64 A.k, .int .i64 A.t, .int .i64 A.r, .int .i64 A.x]) ∧
  (u 7 → X 14 = .pointer (some ⟨g, 0, none⟩)) ∧
  (u 8 → X 15 = .agg #[.int .i64 op, .bool nar, .bool reg, .int .i64 size, .int .i64 (d : Int), .int .i64 src, .int .i64 off, .int .i64 imm]) ∧
  (u 9 → X 16 = .agg #[.int .i64 B.k, .int .i64 B.t, .int .i64 B.r, .int .i64 B.x]) ∧
  SlotM w1.heap.size 43 (u 10) (u 12) (X 5) w #[.int .i64 A.k, .int .i64 A.t, .int .i64 A.r, .int .i64 A.x] ∧
  SlotM w1.heap.size 43 (u 11) (u 13) (X 6) w #[.int .i64 B.k, .int .i64 B.t, .int .i64 B.r, .int .i64 B.x] ∧
  (u 10 → u 11 → X 5 ≠ X 6)

set_option maxHeartbeats 4000000 in
theorem add_v {w : World} {base g : Nat} {P : Pg} {S : St} {vc vk vg vn : Value} (h : Mem w base g P S vc vk vg vn) (hp : S.pc < 1048576) (op : Int) (nar reg : Bool) (size dst src off imm : Int) (hd0 : 0 ≤ dst ∧ dst < 11) (hs : reg = true → 0 ≤ src ∧ src < 11) :
    Calls Tryz.prog 52 #[.pointer (some ⟨g, 0, none⟩), .agg #[.int .i64 op, .bool nar, .bool reg, .int .i64 size, .int .i64 dst, .int .i64 src, .int .i64 off, .int .i64 imm]] w (Went base g P vc vk vg vn (addL P S ⟨op, nar, reg, size, dst, src, off, imm⟩) w) := by
  obtain ⟨d, rfl⟩ := Int.eq_ofNat_of_zero_le hd0.1
  have hdn : d < 11 := by omega
  have hd' : (d : Int) < 11 := by omega
  obtain ⟨A, hA⟩ : ∃ A, S.regs d = A := ⟨_, rfl⟩
  obtain ⟨B, hB⟩ : ∃ B, secL S ⟨op, nar, reg, size, d, src, off, imm⟩ = B := ⟨_, rfl⟩
  have HL := Lib.hid (show addL P S ⟨op, nar, reg, size, d, src, off, imm⟩ = if (!nar && (A.isPtr && B.isNum)) = true then movedL P S d A (distL B.x) else if (!nar && (A.isNum && B.isPtr)) = true then movedL P S d B (distL A.x) else joinL P S ⟨op, nar, reg, size, d, src, off, imm⟩ by
    unfold addL; rw [hB]; simp only [Int.toNat_natCast]; rw [hA])
  have HA := Lib.hid hA
  have HS1 := Lib.hid hs
  have hM1 := h.alloc (.cells #[.int .i64 op, .bool nar, .bool reg, .int .i64 size, .int .i64 d, .int .i64 src, .int .i64 off, .int .i64 imm] 57)
  have hI1 := Blk.new w 57 #[.int .i64 op, .bool nar, .bool reg, .int .i64 size, .int .i64 d, .int .i64 src, .int .i64 off, .int .i64 imm]
  have hT1 := Touch.alloc (g := g) w (.cells #[.int .i64 op, .bool nar, .bool reg, .int .i64 size, .int .i64 d, .int .i64 src, .int .i64 off, .int .i64 imm] 57)
  have hgm := h.fb.lt
  clear h
  go_enter Tryz.func52, Tryz.ntmps52
  go_upto_region 1 with (fail)
  generalize (w.alloc (.cells #[.int .i64 op, .bool nar, .bool reg, .int .i64 size, .int .i64 d, .int .i64 src, .int .i64 off, .int .i64 imm] 57)) = w1 at *
  generalize w.heap.size = m at *
  have HS := Lib.hid (fun wv (hb : Below w1.heap.size w1 wv) => second_u (hM1.up hb) op nar reg size d src off imm HS1.out B hB)
  have HM1 := Lib.hid hM1
  have HI1 := Lib.hid hI1
  have HT1 := Lib.hid hT1
  clear hM1 hI1 hT1 hA hB hs hd0
  refine Inv.wp_region_inv [5, 6, 7, 8, 9, 10, 11, 12, 13, 14, 15, 16] (AddR w1 g m d op nar reg size src off imm A B) (by kernel_rfl) (by kernel_rfl) [0, 1, 2, 3, 4, 5, 6, 7, 8, 9, 10, 11, 12, 13] (by kernel_rfl) ?_ ?_ ?_
  · exact ⟨bdrw (Below.refl _ _), fun h => h.elim, fun h => h.elim, fun h => h.elim, fun h => h.elim, fun h => h.elim, fun h => h.elim, fun h => h.elim, fun h => h.elim, fun h => h.elim, fun h => h.elim, SlotM.no, SlotM.no, fun h => h.elim⟩
  · refine Inv.AllInv.cons ({ dst := some 7, op := Op.move (Operand.tmp 0), type := 31, pos := "join.go:29", after := #[], guard := none }) rfl rfl [] (by kernel_rfl) ?_ ?_
    · intro Q2 u X wv hR hu hd K hK
      obtain ⟨q0, q1, q2, q3, q4, q5, q6, q7, q8, q9, q10, q11, q12, q13⟩ := hR
      refine ⟨?_⟩
      simp only [Inv.puts, Act.put, List.setIfInBounds_toArray, List.set_cons_zero, List.set_cons_succ] at hK
      simp only [Inv.puts, Act.put, List.setIfInBounds_toArray, List.set_cons_zero, List.set_cons_succ]
      go_simp
      refine hK.out (Inv.upd X 7 (.pointer (some ⟨g, 0, none⟩))) _ ?_
      exact ⟨q0, fun _ => rfl, fun h => q2 (h.resolve_left (by decide)), fun h => q3 (h.resolve_left (by decide)), fun h => q4 (h.resolve_left (by decide)), fun h => q5 (h.resolve_left (by decide)), fun h => q6 (h.resolve_left (by decide)), fun h => q7 (h.resolve_left (by decide)), fun h => q8 (h.resolve_left (by decide)), fun h => q9 (h.resolve_left (by decide)), fun h => q10 (h.resolve_left (by decide)), (q11.step (by decide) (by decide)), (q12.step (by decide) (by decide)), fun h h2 => q13 (h.resolve_left (by decide)) (h2.resolve_left (by decide))⟩
    refine Inv.AllInv.cons ({ dst := some 8, op := Op.fieldAddr 57 (Operand.tmp 3) 4, type := 0, pos := "join.go:29", after := #[], guard := none }) rfl rfl [] (by kernel_rfl) ?_ ?_
    · intro Q2 u X wv hR hu hd K hK
      obtain ⟨q0, q1, q2, q3, q4, q5, q6, q7, q8, q9, q10, q11, q12, q13⟩ := hR
      refine ⟨?_⟩
      simp only [Inv.puts, Act.put, List.setIfInBounds_toArray, List.set_cons_zero, List.set_cons_succ] at hK
      simp only [Inv.puts, Act.put, List.setIfInBounds_toArray, List.set_cons_zero, List.set_cons_succ]
      go_simp
      refine hK.out (Inv.upd X 8 (.pointer (some ⟨m, 4, none⟩))) _ ?_
      exact ⟨q0, fun h => q1 (h.resolve_left (by decide)), fun _ => rfl, fun h => q3 (h.resolve_left (by decide)), fun h => q4 (h.resolve_left (by decide)), fun h => q5 (h.resolve_left (by decide)), fun h => q6 (h.resolve_left (by decide)), fun h => q7 (h.resolve_left (by decide)), fun h => q8 (h.resolve_left (by decide)), fun h => q9 (h.resolve_left (by decide)), fun h => q10 (h.resolve_left (by decide)), (q11.step (by decide) (by decide)), (q12.step (by decide) (by decide)), fun h h2 => q13 (h.resolve_left (by decide)) (h2.resolve_left (by decide))⟩
    refine Inv.AllInv.cons ({ dst := some 9, op := Op.load 3 (Operand.tmp 8), type := 3, pos := "join.go:29", after := #[{ on := 1, ground := Ground.data }], guard := none }) rfl rfl [1] (by kernel_rfl) ?_ ?_
    · intro Q2 u X wv hR hu hd K hK
      obtain ⟨q0, q1, q2, q3, q4, q5, q6, q7, q8, q9, q10, q11, q12, q13⟩ := hR
      have e2 := q2 hd.1
      obtain ⟨c0, c1, c2, c3, c4, c5, c6, c7⟩ := (HI1.out.up q0).eight
      refine ⟨?_⟩
      simp only [Inv.puts, Act.put, List.setIfInBounds_toArray, List.set_cons_zero, List.set_cons_succ] at hK
      simp only [Inv.puts, Act.put, List.setIfInBounds_toArray, List.set_cons_zero, List.set_cons_succ, e2]
      go_simp
      refine hK.out (Inv.upd (Inv.upd X 8 (.pointer (some ⟨m, 4, none⟩))) 9 (.int .i64 (d : Int))) _ ?_
      rw [Inv.upd_same e2]
      exact ⟨q0, fun h => q1 (h.resolve_left (by decide)), fun h => q2 (h.resolve_left (by decide)), fun _ => rfl, fun h => q4 (h.resolve_left (by decide)), fun h => q5 (h.resolve_left (by decide)), fun h => q6 (h.resolve_left (by decide)), fun h => q7 (h.resolve_left (by decide)), fun h => q8 (h.resolve_left (by decide)), fun h => q9 (h.resolve_left (by decide)), fun h => q10 (h.resolve_left (by decide)), (q11.step (by decide) (by decide)), (q12.step (by decide) (by decide)), fun h h2 => q13 (h.resolve_left (by decide)) (h2.resolve_left (by decide))⟩
    refine Inv.AllInv.cons ({ dst := some 10, op := Op.nilCheck (Operand.tmp 7), type := 0, pos := "join.go:29", after := #[{ on := 0, ground := Ground.data }], guard := none }) rfl rfl [0] (by kernel_rfl) ?_ ?_
    · intro Q2 u X wv hR hu hd K hK
      obtain ⟨q0, q1, q2, q3, q4, q5, q6, q7, q8, q9, q10, q11, q12, q13⟩ := hR
      have e1 := q1 hd.1
      refine ⟨?_⟩
      simp only [Inv.puts, Act.put, List.setIfInBounds_toArray, List.set_cons_zero, List.set_cons_succ] at hK
      simp only [Inv.puts, Act.put, List.setIfInBounds_toArray, List.set_cons_zero, List.set_cons_succ, e1]
      go_simp
      refine hK.out (Inv.upd (Inv.upd X 7 (.pointer (some ⟨g, 0, none⟩))) 10 (.pointer (some ⟨g, 0, none⟩))) _ ?_
      rw [Inv.upd_same e1]
      exact ⟨q0, fun h => q1 (h.resolve_left (by decide)), fun h => q2 (h.resolve_left (by decide)), fun h => q3 (h.resolve_left (by decide)), fun _ => rfl, fun h => q5 (h.resolve_left (by decide)), fun h => q6 (h.resolve_left (by decide)), fun h => q7 (h.resolve_left (by decide)), fun h => q8 (h.resolve_left (by decide)), fun h => q9 (h.resolve_left (by decide)), fun h => q10 (h.resolve_left (by decide)), (q11.step (by decide) (by decide)), (q12.step (by decide) (by decide)), fun h h2 => q13 (h.resolve_left (by decide)) (h2.resolve_left (by decide))⟩
    refine Inv.AllInv.cons ({ dst := some 11, op := Op.fieldAddr 72 (Operand.tmp 10) 3, type := 0, pos := "join.go:29", after := #[{ on := 3, ground := Ground.data }], guard := none }) rfl rfl [3] (by kernel_rfl) ?_ ?_
    · intro Q2 u X wv hR hu hd K hK
      obtain ⟨q0, q1, q2, q3, q4, q5, q6, q7, q8, q9, q10, q11, q12, q13⟩ := hR
      have e4 := q4 hd.1
      refine ⟨?_⟩
      simp only [Inv.puts, Act.put, List.setIfInBounds_toArray, List.set_cons_zero, List.set_cons_succ] at hK
      simp only [Inv.puts, Act.put, List.setIfInBounds_toArray, List.set_cons_zero, List.set_cons_succ, e4]
      go_simp
      refine hK.out (Inv.upd (Inv.upd X 10 (.pointer (some ⟨g, 0, none⟩))) 11 (.pointer (some ⟨g, 422, none⟩))) _ ?_
      rw [Inv.upd_same e4]
      exact ⟨q0, fun h => q1 (h.resolve_left (by decide)), fun h => q2 (h.resolve_left (by decide)), fun h => q3 (h.resolve_left (by decide)), fun h => q4 (h.resolve_left (by decide)), fun _ => rfl, fun h => q6 (h.resolve_left (by decide)), fun h => q7 (h.resolve_left (by decide)), fun h => q8 (h.resolve_left (by decide)), fun h => q9 (h.resolve_left (by decide)), fun h => q10 (h.resolve_left (by decide)), (q11.step (by decide) (by decide)), (q12.step (by decide) (by decide)), fun h h2 => q13 (h.resolve_left (by decide)) (h2.resolve_left (by decide))⟩
    refine Inv.AllInv.cons ({ dst := some 12, op := Op.indexAddr 44 (Operand.tmp 11) (Operand.tmp 9), type := 0, pos := "join.go:29", after := #[{ on := 4, ground := Ground.data }, { on := 2, ground := Ground.data }], guard := none }) rfl rfl [4, 2] (by kernel_rfl) ?_ ?_
    · intro Q2 u X wv hR hu hd K hK
      obtain ⟨q0, q1, q2, q3, q4, q5, q6, q7, q8, q9, q10, q11, q12, q13⟩ := hR
      have e3 := q3 hd.2.1
      have e5 := q5 hd.1
      have hd8 := hd'
      refine ⟨?_⟩
      simp only [Inv.puts, Act.put, List.setIfInBounds_toArray, List.set_cons_zero, List.set_cons_succ] at hK
      simp only [Inv.puts, Act.put, List.setIfInBounds_toArray, List.set_cons_zero, List.set_cons_succ, e3, e5]
      go_simp
      refine hK.out (Inv.upd (Inv.upd (Inv.upd X 9 (.int .i64 (d : Int))) 11 (.pointer (some ⟨g, 422, none⟩))) 12 (.pointer (some ⟨g, 422 + d * 4, none⟩))) _ ?_
      rw [Inv.upd_same e3, Inv.upd_same e5]
      exact ⟨q0, fun h => q1 (h.resolve_left (by decide)), fun h => q2 (h.resolve_left (by decide)), fun h => q3 (h.resolve_left (by decide)), fun h => q4 (h.resolve_left (by decide)), fun h => q5 (h.resolve_left (by decide)), fun _ => rfl, fun h => q7 (h.resolve_left (by decide)), fun h => q8 (h.resolve_left (by decide)), fun h => q9 (h.resolve_left (by decide)), fun h => q10 (h.resolve_left (by decide)), (q11.step (by decide) (by decide)), (q12.step (by decide) (by decide)), fun h h2 => q13 (h.resolve_left (by decide)) (h2.resolve_left (by decide))⟩
    refine Inv.AllInv.cons ({ dst := some 13, op := Op.load 43 (Operand.tmp 12), type := 43, pos := "join.go:29", after := #[{ on := 5, ground := Ground.data }], guard := none }) rfl rfl [5] (by kernel_rfl) ?_ ?_
    · intro Q2 u X wv hR hu hd K hK
      obtain ⟨q0, q1, q2, q3, q4, q5, q6, q7, q8, q9, q10, q11, q12, q13⟩ := hR
      have e6 := q6 hd.1
      obtain ⟨c0, c1, c2, c3⟩ := (HM1.out.up q0).reg d hdn
      rw [HA.out] at c0 c1 c2 c3
      refine ⟨?_⟩
      simp only [Inv.puts, Act.put, List.setIfInBounds_toArray, List.set_cons_zero, List.set_cons_succ] at hK
      simp only [Inv.puts, Act.put, List.setIfInBounds_toArray, List.set_cons_zero, List.set_cons_succ, e6]
      go_simp
      refine hK.out (Inv.upd (Inv.upd X 12 (.pointer (some ⟨g, 422 + d * 4, none⟩))) 13 (.agg #[.int .i64 A.k, .int .i64 A.t, .int .i64 A.r, .int .i64 A.x])) _ ?_
      rw [Inv.upd_same e6]
      exact ⟨q0, fun h => q1 (h.resolve_left (by decide)), fun h => q2 (h.resolve_left (by decide)), fun h => q3 (h.resolve_left (by decide)), fun h => q4 (h.resolve_left (by decide)), fun h => q5 (h.resolve_left (by decide)), fun h => q6 (h.resolve_left (by decide)), fun _ => rfl, fun h => q8 (h.resolve_left (by decide)), fun h => q9 (h.resolve_left (by decide)), fun h => q10 (h.resolve_left (by decide)), (q11.step (by decide) (by decide)), (q12.step (by decide) (by decide)), fun h h2 => q13 (h.resolve_left (by decide)) (h2.resolve_left (by decide))⟩
    refine Inv.AllInv.cons ({ dst := some 14, op := Op.move (Operand.tmp 0), type := 31, pos := "join.go:29", after := #[], guard := none }) rfl rfl [] (by kernel_rfl) ?_ ?_
    · intro Q2 u X wv hR hu hd K hK
      obtain ⟨q0, q1, q2, q3, q4, q5, q6, q7, q8, q9, q10, q11, q12, q13⟩ := hR
      refine ⟨?_⟩
      simp only [Inv.puts, Act.put, List.setIfInBounds_toArray, List.set_cons_zero, List.set_cons_succ] at hK
      simp only [Inv.puts, Act.put, List.setIfInBounds_toArray, List.set_cons_zero, List.set_cons_succ]
      go_simp
      refine hK.out (Inv.upd X 14 (.pointer (some ⟨g, 0, none⟩))) _ ?_
      exact ⟨q0, fun h => q1 (h.resolve_left (by decide)), fun h => q2 (h.resolve_left (by decide)), fun h => q3 (h.resolve_left (by decide)), fun h => q4 (h.resolve_left (by decide)), fun h => q5 (h.resolve_left (by decide)), fun h => q6 (h.resolve_left (by decide)), fun h => q7 (h.resolve_left (by decide)), fun _ => rfl, fun h => q9 (h.resolve_left (by decide)), fun h => q10 (h.resolve_left (by decide)), (q11.step (by decide) (by decide)), (q12.step (by decide) (by decide)), fun h h2 => q13 (h.resolve_left (by decide)) (h2.resolve_left (by decide))⟩
    refine Inv.AllInv.cons ({ dst := some 15, op := Op.load 57 (Operand.tmp 3), type := 57, pos := "join.go:29", after := #[], guard := none }) rfl rfl [] (by kernel_rfl) ?_ ?_
    · intro Q2 u X wv hR hu hd K hK
      obtain ⟨q0, q1, q2, q3, q4, q5, q6, q7, q8, q9, q10, q11, q12, q13⟩ := hR
      obtain ⟨c0, c1, c2, c3, c4, c5, c6, c7⟩ := (HI1.out.up q0).eight
      refine ⟨?_⟩
      simp only [Inv.puts, Act.put, List.setIfInBounds_toArray, List.set_cons_zero, List.set_cons_succ] at hK
      simp only [Inv.puts, Act.put, List.setIfInBounds_toArray, List.set_cons_zero, List.set_cons_succ]
      go_simp
      refine hK.out (Inv.upd X 15 (.agg #[.int .i64 op, .bool nar, .bool reg, .int .i64 size, .int .i64 (d : Int), .int .i64 src, .int .i64 off, .int .i64 imm])) _ ?_
      exact ⟨q0, fun h => q1 (h.resolve_left (by decide)), fun h => q2 (h.resolve_left (by decide)), fun h => q3 (h.resolve_left (by decide)), fun h => q4 (h.resolve_left (by decide)), fun h => q5 (h.resolve_left (by decide)), fun h => q6 (h.resolve_left (by decide)), fun h => q7 (h.resolve_left (by decide)), fun h => q8 (h.resolve_left (by decide)), fun _ => rfl, fun h => q10 (h.resolve_left (by decide)), (q11.step (by decide) (by decide)), (q12.step (by decide) (by decide)), fun h h2 => q13 (h.resolve_left (by decide)) (h2.resolve_left (by decide))⟩
    refine Inv.AllInv.cons ({ dst := some 16, op := Op.call { callee := Callee.value (Operand.func 74), args := #[Operand.tmp 14, Operand.tmp 15], argTypes := #[31, 57] }, type := 43, pos := "join.go:29", after := #[{ on := 7, ground := Ground.data }, { on := 8, ground := Ground.data }], guard := none }) rfl rfl [7, 8] (by kernel_rfl) ?_ ?_
    · intro Q2 u X wv hR hu hd K hK
      obtain ⟨q0, q1, q2, q3, q4, q5, q6, q7, q8, q9, q10, q11, q12, q13⟩ := hR
      have e8 := q8 hd.1
      have e9 := q9 hd.2.1
      refine ⟨?_⟩
      simp only [Inv.puts, Act.put, List.setIfInBounds_toArray, List.set_cons_zero, List.set_cons_succ] at hK
      simp only [Inv.puts, Act.put, List.setIfInBounds_toArray, List.set_cons_zero, List.set_cons_succ, e8, e9]
      go_simp
      go_at_call 74
      refine (HS.out wv q0).mono ?_
      rintro e wn ⟨rfl, hB⟩
      refine hK.out (Inv.upd (Inv.upd (Inv.upd X 14 (.pointer (some ⟨g, 0, none⟩))) 15 (.agg #[.int .i64 op, .bool nar, .bool reg, .int .i64 size, .int .i64 (d : Int), .int .i64 src, .int .i64 off, .int .i64 imm])) 16 (.agg #[.int .i64 B.k, .int .i64 B.t, .int .i64 B.r, .int .i64 B.x])) _ ?_
      rw [Inv.upd_same e8, Inv.upd_same e9]
      exact ⟨q0.trans (hB.mono q0.size), fun h => q1 (h.resolve_left (by decide)), fun h => q2 (h.resolve_left (by decide)), fun h => q3 (h.resolve_left (by decide)), fun h => q4 (h.resolve_left (by decide)), fun h => q5 (h.resolve_left (by decide)), fun h => q6 (h.resolve_left (by decide)), fun h => q7 (h.resolve_left (by decide)), fun h => q8 (h.resolve_left (by decide)), fun h => q9 (h.resolve_left (by decide)), fun _ => rfl, (q11.step (by decide) (by decide)).up hB, (q12.step (by decide) (by decide)).up hB, fun h h2 => q13 (h.resolve_left (by decide)) (h2.resolve_left (by decide))⟩
    refine Inv.AllInv.cons ({ dst := some 5, op := Op.alloc 43, type := 0, pos := "join.go:29", after := #[], guard := none }) rfl rfl [] (by kernel_rfl) ?_ ?_
    · intro Q2 u X wv hR hu hd K hK
      obtain ⟨q0, q1, q2, q3, q4, q5, q6, q7, q8, q9, q10, q11, q12, q13⟩ := hR
      refine ⟨?_⟩
      simp only [Inv.puts, Act.put, List.setIfInBounds_toArray, List.set_cons_zero, List.set_cons_succ] at hK
      simp only [Inv.puts, Act.put, List.setIfInBounds_toArray, List.set_cons_zero, List.set_cons_succ]
      go_simp
      refine hK.out (Inv.upd X 5 (.pointer (some ⟨wv.heap.size, 0, none⟩))) _ ?_
      exact ⟨q0.alloc q0.size _, fun h => q1 (h.resolve_left (by decide)), fun h => q2 (h.resolve_left (by decide)), fun h => q3 (h.resolve_left (by decide)), fun h => q4 (h.resolve_left (by decide)), fun h => q5 (h.resolve_left (by decide)), fun h => q6 (h.resolve_left (by decide)), fun h => q7 (h.resolve_left (by decide)), fun h => q8 (h.resolve_left (by decide)), fun h => q9 (h.resolve_left (by decide)), fun h => q10 (h.resolve_left (by decide)), q11.made hu (by decide) q0.size rfl, (q12.step (by decide) (by decide)).up (box1 _ _), fun _ h => (q12.ne (h.resolve_left (by decide))).symm⟩
    refine Inv.AllInv.cons ({ dst := some 6, op := Op.alloc 43, type := 0, pos := "join.go:29", after := #[], guard := none }) rfl rfl [] (by kernel_rfl) ?_ ?_
    · intro Q2 u X wv hR hu hd K hK
      obtain ⟨q0, q1, q2, q3, q4, q5, q6, q7, q8, q9, q10, q11, q12, q13⟩ := hR
      refine ⟨?_⟩
      simp only [Inv.puts, Act.put, List.setIfInBounds_toArray, List.set_cons_zero, List.set_cons_succ] at hK
      simp only [Inv.puts, Act.put, List.setIfInBounds_toArray, List.set_cons_zero, List.set_cons_succ]
      go_simp
      refine hK.out (Inv.upd X 6 (.pointer (some ⟨wv.heap.size, 0, none⟩))) _ ?_
      exact ⟨q0.alloc q0.size _, fun h => q1 (h.resolve_left (by decide)), fun h => q2 (h.resolve_left (by decide)), fun h => q3 (h.resolve_left (by decide)), fun h => q4 (h.resolve_left (by decide)), fun h => q5 (h.resolve_left (by decide)), fun h => q6 (h.resolve_left (by decide)), fun h => q7 (h.resolve_left (by decide)), fun h => q8 (h.resolve_left (by decide)), fun h => q9 (h.resolve_left (by decide)), fun h => q10 (h.resolve_left (by decide)), (q11.step (by decide) (by decide)).up (box1 _ _), q12.made hu (by decide) q0.size rfl, fun h _ => q11.ne (h.resolve_left (by decide))⟩
    refine Inv.AllInv.cons ({ dst := none, op := Op.store 43 (Operand.tmp 5) (Operand.tmp 13), type := 0, pos := "join.go:29", after := #[{ on := 10, ground := Ground.data }, { on := 6, ground := Ground.data }, { on := 9, ground := Ground.chain }, { on := 0, ground := Ground.phase }, { on := 1, ground := Ground.phase }, { on := 2, ground := Ground.phase }, { on := 3, ground := Ground.phase }, { on := 4, ground := Ground.phase }, { on := 5, ground := Ground.phase }, { on := 6, ground := Ground.phase }, { on := 7, ground := Ground.textOnly Departure.lateStores }, { on := 8, ground := Ground.textOnly Departure.lateStores }, { on := 9, ground := Ground.textOnly Departure.lateStoresUnsure }, { on := 10, ground := Ground.phase }, { on := 11, ground := Ground.phase }], guard := none }) rfl rfl [10, 6, 9, 0, 1, 2, 3, 4, 5, 6, 10, 11] (by kernel_rfl) ?_ ?_
    · intro Q2 u X wv hR hu hd K hK
      obtain ⟨q0, q1, q2, q3, q4, q5, q6, q7, q8, q9, q10, q11, q12, q13⟩ := hR
      have e7 := q7 hd.2.1
      have ha := hd.1
      obtain ⟨g, zs, eX, hg, hz, hBz, -⟩ := q11.2 ha
      obtain ⟨z0, z1, z2, z3, rfl⟩ := arr4_of hz
      obtain ⟨⟨b0, b1, b2, b3⟩, f0, f1, f2, f3⟩ := hBz.four
      have hBx := hBz.set4 (.int .i64 A.k) (.int .i64 A.t) (.int .i64 A.r) (.int .i64 A.x)
      have hT := Touch.set4 (g := g) wv 0 1 2 3 (.int .i64 A.k) (.int .i64 A.t) (.int .i64 A.r) (.int .i64 A.x)
      refine ⟨?_⟩
      simp only [Inv.puts, Act.put, List.setIfInBounds_toArray, List.set_cons_zero, List.set_cons_succ] at hK
      simp only [Inv.puts, Act.put, List.setIfInBounds_toArray, List.set_cons_zero, List.set_cons_succ, e7, eX]
      go_simp
      refine hK.out (Inv.upd (Inv.upd X 13 (.agg #[.int .i64 A.k, .int .i64 A.t, .int .i64 A.r, .int .i64 A.x])) 5 (.pointer (some ⟨g, 0, none⟩))) _ ?_
      rw [Inv.upd_same e7, Inv.upd_same eX]
      exact ⟨below_touch q0 hT hg q0.size, fun h => q1 (h.resolve_left (by decide)), fun h => q2 (h.resolve_left (by decide)), fun h => q3 (h.resolve_left (by decide)), fun h => q4 (h.resolve_left (by decide)), fun h => q5 (h.resolve_left (by decide)), fun h => q6 (h.resolve_left (by decide)), fun h => q7 (h.resolve_left (by decide)), fun h => q8 (h.resolve_left (by decide)), fun h => q9 (h.resolve_left (by decide)), fun h => q10 (h.resolve_left (by decide)), by rw [show _ = _ from eX]; exact SlotM.stored hg ha hBx, (q12.step (by decide) (by decide)).far hT (fun h => fun e => q13 ha (h.resolve_left (by decide)) (eX.trans e.symm)), fun h h2 => q13 (h.resolve_left (by decide)) (h2.resolve_left (by decide))⟩
    refine Inv.AllInv.cons ({ dst := none, op := Op.store 43 (Operand.tmp 6) (Operand.tmp 16), type := 0, pos := "join.go:29", after := #[{ on := 11, ground := Ground.data }, { on := 9, ground := Ground.data }, { on := 12, ground := Ground.chain }, { on := 0, ground := Ground.phase }, { on := 1, ground := Ground.phase }, { on := 2, ground := Ground.phase }, { on := 3, ground := Ground.phase }, { on := 4, ground := Ground.phase }, { on := 5, ground := Ground.phase }, { on := 6, ground := Ground.phase }, { on := 7, ground := Ground.phase }, { on := 8, ground := Ground.phase }, { on := 9, ground := Ground.phase }, { on := 10, ground := Ground.phase }, { on := 11, ground := Ground.phase }, { on := 12, ground := Ground.phase }], guard := none }) rfl rfl [11, 9, 12, 0, 1, 2, 3, 4, 5, 6, 7, 8, 9, 10, 11, 12] (by kernel_rfl) ?_ ?_
    · intro Q2 u X wv hR hu hd K hK
      obtain ⟨q0, q1, q2, q3, q4, q5, q6, q7, q8, q9, q10, q11, q12, q13⟩ := hR
      have e10 := q10 hd.2.1
      have ha := hd.1
      obtain ⟨g, zs, eX, hg, hz, hBz, -⟩ := q12.2 ha
      obtain ⟨z0, z1, z2, z3, rfl⟩ := arr4_of hz
      obtain ⟨⟨b0, b1, b2, b3⟩, f0, f1, f2, f3⟩ := hBz.four
      have hBx := hBz.set4 (.int .i64 B.k) (.int .i64 B.t) (.int .i64 B.r) (.int .i64 B.x)
      have hT := Touch.set4 (g := g) wv 0 1 2 3 (.int .i64 B.k) (.int .i64 B.t) (.int .i64 B.r) (.int .i64 B.x)
      refine ⟨?_⟩
      simp only [Inv.puts, Act.put, List.setIfInBounds_toArray, List.set_cons_zero, List.set_cons_succ] at hK
      simp only [Inv.puts, Act.put, List.setIfInBounds_toArray, List.set_cons_zero, List.set_cons_succ, e10, eX]
      go_simp
      refine hK.out (Inv.upd (Inv.upd X 16 (.agg #[.int .i64 B.k, .int .i64 B.t, .int .i64 B.r, .int .i64 B.x])) 6 (.pointer (some ⟨g, 0, none⟩))) _ ?_
      rw [Inv.upd_same e10, Inv.upd_same eX]
      exact ⟨below_touch q0 hT hg q0.size, fun h => q1 (h.resolve_left (by decide)), fun h => q2 (h.resolve_left (by decide)), fun h => q3 (h.resolve_left (by decide)), fun h => q4 (h.resolve_left (by decide)), fun h => q5 (h.resolve_left (by decide)), fun h => q6 (h.resolve_left (by decide)), fun h => q7 (h.resolve_left (by decide)), fun h => q8 (h.resolve_left (by decide)), fun h => q9 (h.resolve_left (by decide)), fun h => q10 (h.resolve_left (by decide)), (q11.step (by decide) (by decide)).far hT (fun h => fun e => q13 (h.resolve_left (by decide)) ha (e.trans eX.symm)), by rw [show _ = _ from eX]; exact SlotM.stored hg ha hBx, fun h h2 => q13 (h.resolve_left (by decide)) (h2.resolve_left (by decide))⟩
    exact Inv.AllInv.nil
  · intro u X wv hd hR
    obtain ⟨q0, q1, q2, q3, q4, q5, q6, q7, q8, q9, q10, q11, q12, q13⟩ := hR
    obtain ⟨u0, u1, u2, u3, u4, u5, u6, u7, u8, u9, u10, u11, u12, u13, -⟩ := hd
    obtain ⟨p0, ep0, hp0, hP0⟩ := q11.full u12
    obtain ⟨p1, ep1, hp1, hP1⟩ := q12.full u13
    have hne01 : p0 ≠ p1 := fun e => q13 u10 u11 (by rw [ep0, ep1, e])
    simp only [Inv.puts, Act.put, List.setIfInBounds_toArray, List.set_cons_zero, List.set_cons_succ, q1 u0, q2 u1, q3 u2, q4 u3, q5 u4, q6 u5, q7 u6, q8 u7, q9 u8, q10 u9, ep0, ep1]
    have HQ0 := Lib.hid q0
    clear q0 q1 q2 q3 q4 q5 q6 q7 q8 q9 q10 q11 q12 q13
    clear ep0 ep1 u0 u1 u2 u3 u4 u5 u6 u7 u8 u9 u10 u11 u12 u13
    have hM2 := HM1.out.up HQ0.out
    have hI2 := HI1.out.up HQ0.out
    have hT2 := HT1.out.trans (Touch.of_below HQ0.out)
    have hmg : m ≠ g := by omega
    have hpg0 : p0 ≠ g := by have := HI1.out.lt; omega
    have hpg1 : p1 ≠ g := by have := HI1.out.lt; omega
    clear HM1 HI1 HT1 HQ0 HA hp0 hp1
    clear HS
    have HM0 := Lib.hid hM2
    have HI0 := Lib.hid hI2
    have HT0 := Lib.hid hT2
    have HP00 := Lib.hid hP0
    have HP10 := Lib.hid hP1
    clear hM2 hI2 hT2 hP0 hP1
    obtain ⟨c0, c1, c2, c3, c4, c5, c6, c7⟩ := HI0.out.eight
    obtain ⟨⟨x00, x01, x02, x03⟩, -⟩ := HP00.out.four
    obtain ⟨⟨x10, x11, x12, x13⟩, -⟩ := HP10.out.four
    cases nar
    · cases tA : A.isPtr
      · cases tN : A.isNum
        · have HE := Lib.hid HL.out
          rw [tA, tN] at HE
          simp only [Bool.not_false, Bool.not_true, Bool.true_and, Bool.false_and, Bool.and_true, Bool.and_false, Bool.false_eq_true, if_false, if_true] at HE
          go_wp2_with fail
          go_at_call 75
          refine (isPtr_u A false tA _).mono ?_
          rintro e y1 ⟨rfl, hB1⟩
          have HM1 := Lib.hid (HM0.out.up hB1)
          have HI1 := Lib.hid (HI0.out.up hB1)
          have HT1 := Lib.hid (HT0.out.trans (Touch.of_below hB1))
          have HP01 := Lib.hid (HP00.out.up hB1)
          have HP11 := Lib.hid (HP10.out.up hB1)
          clear hB1
          clear c0 c1 c2 c3 c4 c5 c6 c7 x00 x01 x02 x03 x10 x11 x12 x13
          obtain ⟨c0, c1, c2, c3, c4, c5, c6, c7⟩ := HI1.out.eight
          obtain ⟨⟨x00, x01, x02, x03⟩, -⟩ := HP01.out.four
          obtain ⟨⟨x10, x11, x12, x13⟩, -⟩ := HP11.out.four
          go_wp2_with fail
          go_at_call 76
          refine (isNum_u A false tN _).mono ?_
          rintro e y2 ⟨rfl, hB2⟩
          have HM2 := Lib.hid (HM1.out.up hB2)
          have HI2 := Lib.hid (HI1.out.up hB2)
          have HT2 := Lib.hid (HT1.out.trans (Touch.of_below hB2))
          have HP02 := Lib.hid (HP01.out.up hB2)
          have HP12 := Lib.hid (HP11.out.up hB2)
          clear hB2
          clear c0 c1 c2 c3 c4 c5 c6 c7 x00 x01 x02 x03 x10 x11 x12 x13
          obtain ⟨c0, c1, c2, c3, c4, c5, c6, c7⟩ := HI2.out.eight
          obtain ⟨⟨x00, x01, x02, x03⟩, -⟩ := HP02.out.four
          obtain ⟨⟨x10, x11, x12, x13⟩, -⟩ := HP12.out.four
          go_wp2_with fail
          go_at_call 65
          refine (join_v HM2.out hp op false reg size d src off imm ⟨by omega, hd'⟩ HS1.out).mono ?_
          rintro e yz ⟨rfl, hMz, hTz⟩
          go_wp2_with fail
          go_ret
          unfold Went
          rw [HE.out]
          exact ⟨rfl, hMz, HT2.out.trans hTz⟩
        · cases tB : B.isPtr
          · have HE := Lib.hid HL.out
            rw [tA, tN, tB] at HE
            simp only [Bool.not_false, Bool.not_true, Bool.true_and, Bool.false_and, Bool.and_true, Bool.and_false, Bool.false_eq_true, if_false, if_true] at HE
            go_wp2_with fail
            go_at_call 75
            refine (isPtr_u A false tA _).mono ?_
            rintro e y1 ⟨rfl, hB1⟩
            have HM1 := Lib.hid (HM0.out.up hB1)
            have HI1 := Lib.hid (HI0.out.up hB1)
            have HT1 := Lib.hid (HT0.out.trans (Touch.of_below hB1))
            have HP01 := Lib.hid (HP00.out.up hB1)
            have HP11 := Lib.hid (HP10.out.up hB1)
            clear hB1
            clear c0 c1 c2 c3 c4 c5 c6 c7 x00 x01 x02 x03 x10 x11 x12 x13
            obtain ⟨c0, c1, c2, c3, c4, c5, c6, c7⟩ := HI1.out.eight
            obtain ⟨⟨x00, x01, x02, x03⟩, -⟩ := HP01.out.four
            obtain ⟨⟨x10, x11, x12, x13⟩, -⟩ := HP11.out.four
            go_wp2_with fail
            go_at_call 76
            refine (isNum_u A true tN _).mono ?_
            rintro e y2 ⟨rfl, hB2⟩
            have HM2 := Lib.hid (HM1.out.up hB2)
            have HI2 := Lib.hid (HI1.out.up hB2)
            have HT2 := Lib.hid (HT1.out.trans (Touch.of_below hB2))
            have HP02 := Lib.hid (HP01.out.up hB2)
            have HP12 := Lib.hid (HP11.out.up hB2)
            clear hB2
            clear c0 c1 c2 c3 c4 c5 c6 c7 x00 x01 x02 x03 x10 x11 x12 x13
            obtain ⟨c0, c1, c2, c3, c4, c5, c6, c7⟩ := HI2.out.eight
            obtain ⟨⟨x00, x01, x02, x03⟩, -⟩ := HP02.out.four
            obtain ⟨⟨x10, x11, x12, x13⟩, -⟩ := HP12.out.four
            go_wp2_with fail
            go_at_call 75
            refine (isPtr_u B false tB _).mono ?_
            rintro e y3 ⟨rfl, hB3⟩
            have HM3 := Lib.hid (HM2.out.up hB3)
            have HI3 := Lib.hid (HI2.out.up hB3)
            have HT3 := Lib.hid (HT2.out.trans (Touch.of_below hB3))
            have HP03 := Lib.hid (HP02.out.up hB3)
            have HP13 := Lib.hid (HP12.out.up hB3)
            clear hB3
            clear c0 c1 c2 c3 c4 c5 c6 c7 x00 x01 x02 x03 x10 x11 x12 x13
            obtain ⟨c0, c1, c2, c3, c4, c5, c6, c7⟩ := HI3.out.eight
            obtain ⟨⟨x00, x01, x02, x03⟩, -⟩ := HP03.out.four
            obtain ⟨⟨x10, x11, x12, x13⟩, -⟩ := HP13.out.four
            go_wp2_with fail
            go_at_call 65
            refine (join_v HM3.out hp op false reg size d src off imm ⟨by omega, hd'⟩ HS1.out).mono ?_
            rintro e yz ⟨rfl, hMz, hTz⟩
            go_wp2_with fail
            go_ret
            unfold Went
            rw [HE.out]
            exact ⟨rfl, hMz, HT3.out.trans hTz⟩
          · have HE := Lib.hid HL.out
            rw [tA, tN, tB] at HE
            simp only [Bool.not_false, Bool.not_true, Bool.true_and, Bool.false_and, Bool.and_true, Bool.and_false, Bool.false_eq_true, if_false, if_true] at HE
            go_wp2_with fail
            go_at_call 75
            refine (isPtr_u A false tA _).mono ?_
            rintro e y1 ⟨rfl, hB1⟩
            have HM1 := Lib.hid (HM0.out.up hB1)
            have HI1 := Lib.hid (HI0.out.up hB1)
            have HT1 := Lib.hid (HT0.out.trans (Touch.of_below hB1))
            have HP01 := Lib.hid (HP00.out.up hB1)
            have HP11 := Lib.hid (HP10.out.up hB1)
            clear hB1
            clear c0 c1 c2 c3 c4 c5 c6 c7 x00 x01 x02 x03 x10 x11 x12 x13
            obtain ⟨c0, c1, c2, c3, c4, c5, c6, c7⟩ := HI1.out.eight
            obtain ⟨⟨x00, x01, x02, x03⟩, -⟩ := HP01.out.four
            obtain ⟨⟨x10, x11, x12, x13⟩, -⟩ := HP11.out.four
            go_wp2_with fail
            go_at_call 76
            refine (isNum_u A true tN _).mono ?_
            rintro e y2 ⟨rfl, hB2⟩
            have HM2 := Lib.hid (HM1.out.up hB2)
            have HI2 := Lib.hid (HI1.out.up hB2)
            have HT2 := Lib.hid (HT1.out.trans (Touch.of_below hB2))
            have HP02 := Lib.hid (HP01.out.up hB2)
            have HP12 := Lib.hid (HP11.out.up hB2)
            clear hB2
            clear c0 c1 c2 c3 c4 c5 c6 c7 x00 x01 x02 x03 x10 x11 x12 x13
            obtain ⟨c0, c1, c2, c3, c4, c5, c6, c7⟩ := HI2.out.eight
            obtain ⟨⟨x00, x01, x02, x03⟩, -⟩ := HP02.out.four
            obtain ⟨⟨x10, x11, x12, x13⟩, -⟩ := HP12.out.four
            go_wp2_with fail
            go_at_call 75
            refine (isPtr_u B true tB _).mono ?_
            rintro e y3 ⟨rfl, hB3⟩
            have HM3 := Lib.hid (HM2.out.up hB3)
            have HI3 := Lib.hid (HI2.out.up hB3)
            have HT3 := Lib.hid (HT2.out.trans (Touch.of_below hB3))
            have HP03 := Lib.hid (HP02.out.up hB3)
            have HP13 := Lib.hid (HP12.out.up hB3)
            clear hB3
            clear c0 c1 c2 c3 c4 c5 c6 c7 x00 x01 x02 x03 x10 x11 x12 x13
            obtain ⟨c0, c1, c2, c3, c4, c5, c6, c7⟩ := HI3.out.eight
            obtain ⟨⟨x00, x01, x02, x03⟩, -⟩ := HP03.out.four
            obtain ⟨⟨x10, x11, x12, x13⟩, -⟩ := HP13.out.four
            go_wp2_with fail
            refine wp_region_still_tail 7 (by kernel_rfl) (by kernel_rfl) ?_
            simp only [List.take_succ_cons, List.take_zero, List.drop_succ_cons, List.drop_zero]
            iterate 6 still_step
            still_call ((distance_v (A.x) _).mono fun _ _ ⟨h1, h2⟩ => ⟨h1, h2.symm⟩)
            iterate 0 still_step
            refine wpStill_nil ?_
            go_wp2_with fail
            go_at_call 77
            refine (move_v HM3.out.drw hp d hdn B (distL A.x)).mono ?_
            rintro e yz ⟨rfl, hMz, hTz⟩
            go_wp2_with fail
            go_ret
            unfold Went
            rw [HE.out]
            exact ⟨rfl, hMz, HT3.out.drw.trans hTz⟩
      · have tN := ptr_num tA
        cases tB : B.isNum
        · have HE := Lib.hid HL.out
          rw [tA, tN, tB] at HE
          simp only [Bool.not_false, Bool.not_true, Bool.true_and, Bool.false_and, Bool.and_true, Bool.and_false, Bool.false_eq_true, if_false, if_true] at HE
          go_wp2_with fail
          go_at_call 75
          refine (isPtr_u A true tA _).mono ?_
          rintro e y1 ⟨rfl, hB1⟩
          have HM1 := Lib.hid (HM0.out.up hB1)
          have HI1 := Lib.hid (HI0.out.up hB1)
          have HT1 := Lib.hid (HT0.out.trans (Touch.of_below hB1))
          have HP01 := Lib.hid (HP00.out.up hB1)
          have HP11 := Lib.hid (HP10.out.up hB1)
          clear hB1
          clear c0 c1 c2 c3 c4 c5 c6 c7 x00 x01 x02 x03 x10 x11 x12 x13
          obtain ⟨c0, c1, c2, c3, c4, c5, c6, c7⟩ := HI1.out.eight
          obtain ⟨⟨x00, x01, x02, x03⟩, -⟩ := HP01.out.four
          obtain ⟨⟨x10, x11, x12, x13⟩, -⟩ := HP11.out.four
          go_wp2_with fail
          go_at_call 76
          refine (isNum_u B false tB _).mono ?_
          rintro e y2 ⟨rfl, hB2⟩
          have HM2 := Lib.hid (HM1.out.up hB2)
          have HI2 := Lib.hid (HI1.out.up hB2)
          have HT2 := Lib.hid (HT1.out.trans (Touch.of_below hB2))
          have HP02 := Lib.hid (HP01.out.up hB2)
          have HP12 := Lib.hid (HP11.out.up hB2)
          clear hB2
          clear c0 c1 c2 c3 c4 c5 c6 c7 x00 x01 x02 x03 x10 x11 x12 x13
          obtain ⟨c0, c1, c2, c3, c4, c5, c6, c7⟩ := HI2.out.eight
          obtain ⟨⟨x00, x01, x02, x03⟩, -⟩ := HP02.out.four
          obtain ⟨⟨x10, x11, x12, x13⟩, -⟩ := HP12.out.four
          go_wp2_with fail
          go_at_call 76
          refine (isNum_u A false tN _).mono ?_
          rintro e y3 ⟨rfl, hB3⟩
          have HM3 := Lib.hid (HM2.out.up hB3)
          have HI3 := Lib.hid (HI2.out.up hB3)
          have HT3 := Lib.hid (HT2.out.trans (Touch.of_below hB3))
          have HP03 := Lib.hid (HP02.out.up hB3)
          have HP13 := Lib.hid (HP12.out.up hB3)
          clear hB3
          clear c0 c1 c2 c3 c4 c5 c6 c7 x00 x01 x02 x03 x10 x11 x12 x13
          obtain ⟨c0, c1, c2, c3, c4, c5, c6, c7⟩ := HI3.out.eight
          obtain ⟨⟨x00, x01, x02, x03⟩, -⟩ := HP03.out.four
          obtain ⟨⟨x10, x11, x12, x13⟩, -⟩ := HP13.out.four
          go_wp2_with fail
          go_at_call 65
          refine (join_v HM3.out hp op false reg size d src off imm ⟨by omega, hd'⟩ HS1.out).mono ?_
          rintro e yz ⟨rfl, hMz, hTz⟩
          go_wp2_with fail
          go_ret
          unfold Went
          rw [HE.out]
          exact ⟨rfl, hMz, HT3.out.trans hTz⟩
        · have HE := Lib.hid HL.out
          rw [tA, tB] at HE
          simp only [Bool.not_false, Bool.not_true, Bool.true_and, Bool.false_and, Bool.and_true, Bool.and_false, Bool.false_eq_true, if_false, if_true] at HE
          go_wp2_with fail
          go_at_call 75
          refine (isPtr_u A true tA _).mono ?_
          rintro e y1 ⟨rfl, hB1⟩
          have HM1 := Lib.hid (HM0.out.up hB1)
          have HI1 := Lib.hid (HI0.out.up hB1)
          have HT1 := Lib.hid (HT0.out.trans (Touch.of_below hB1))
          have HP01 := Lib.hid (HP00.out.up hB1)
          have HP11 := Lib.hid (HP10.out.up hB1)
          clear hB1
          clear c0 c1 c2 c3 c4 c5 c6 c7 x00 x01 x02 x03 x10 x11 x12 x13
          obtain ⟨c0, c1, c2, c3, c4, c5, c6, c7⟩ := HI1.out.eight
          obtain ⟨⟨x00, x01, x02, x03⟩, -⟩ := HP01.out.four
          obtain ⟨⟨x10, x11, x12, x13⟩, -⟩ := HP11.out.four
          go_wp2_with fail
          go_at_call 76
          refine (isNum_u B true tB _).mono ?_
          rintro e y2 ⟨rfl, hB2⟩
          have HM2 := Lib.hid (HM1.out.up hB2)
          have HI2 := Lib.hid (HI1.out.up hB2)
          have HT2 := Lib.hid (HT1.out.trans (Touch.of_below hB2))
          have HP02 := Lib.hid (HP01.out.up hB2)
          have HP12 := Lib.hid (HP11.out.up hB2)
          clear hB2
          clear c0 c1 c2 c3 c4 c5 c6 c7 x00 x01 x02 x03 x10 x11 x12 x13
          obtain ⟨c0, c1, c2, c3, c4, c5, c6, c7⟩ := HI2.out.eight
          obtain ⟨⟨x00, x01, x02, x03⟩, -⟩ := HP02.out.four
          obtain ⟨⟨x10, x11, x12, x13⟩, -⟩ := HP12.out.four
          go_wp2_with fail
          refine wp_region_still_tail 7 (by kernel_rfl) (by kernel_rfl) ?_
          simp only [List.take_succ_cons, List.take_zero, List.drop_succ_cons, List.drop_zero]
          iterate 6 still_step
          still_call ((distance_v (B.x) _).mono fun _ _ ⟨h1, h2⟩ => ⟨h1, h2.symm⟩)
          iterate 0 still_step
          refine wpStill_nil ?_
          go_wp2_with fail
          go_at_call 77
          refine (move_v HM2.out.drw hp d hdn A (distL B.x)).mono ?_
          rintro e yz ⟨rfl, hMz, hTz⟩
          go_wp2_with fail
          go_ret
          unfold Went
          rw [HE.out]
          exact ⟨rfl, hMz, HT2.out.drw.trans hTz⟩
    · have HE := Lib.hid HL.out
      simp only [Bool.not_false, Bool.not_true, Bool.true_and, Bool.false_and, Bool.and_true, Bool.and_false, Bool.false_eq_true, if_false, if_true] at HE
      go_wp2_with fail
      go_at_call 65
      refine (join_v HM0.out hp op true reg size d src off imm ⟨by omega, hd'⟩ HS1.out).mono ?_
      rintro e yz ⟨rfl, hMz, hTz⟩
      go_wp2_with fail
      go_ret
      unfold Went
      rw [HE.out]
      exact ⟨rfl, hMz, HT0.out.trans hTz⟩
/-- what holds, whatever has come up -/
def SubR (w1 : World) (g m d : Nat) (op : Int) (nar reg : Bool) (size src off imm : Int) (A B : V) (u : Nat → Prop) (X : Tmp → Value) (w : World) : Prop :=
  Below w1.heap.size w1 w ∧
  (u 0 → X 7 = .pointer (some ⟨g, 0, none⟩)) ∧
  (u 1 → X 8 = .pointer (some ⟨m, 4, none⟩)) ∧
  (u 2 → X 9 = .int .i64 (d : Int)) ∧
  (u 3 → X 10 = .pointer (some ⟨g, 0, none⟩)) ∧
  (u 4 → X 11 = .pointer (some ⟨g, 422, none⟩)) ∧
  (u 5 → X 12 = .pointer (some ⟨g, 422 + d * 4, none⟩)) ∧
  (u 6 → X 13 = .agg #[.int .i64 A.k, .int .i64 A.t, .int .i64 A.r, .int .i64 A.x]) ∧
  (u 7 → X 14 = .pointer (some ⟨g, 0, none⟩)) ∧
  (u 8 → X 15 = .agg #[.int .i64 op, .bool nar, .bool reg, .int .i64 size, .int .i64 (d : Int), .int .i64 src, .int .i64 off, .int .i64 imm]) ∧
  (u 9 → X 16 = .agg #[.int .i64 B.k, .int .i64 B.t, .int .i64 B.r, .int .i64 B.x]) ∧
  SlotM w1.heap.size 43 (u 10) (u 12) (X 5) w #[.int .i64 A.k, .int .i64 A.t, .int .i64 A.r, .int .i64 A.x] ∧
  SlotM w1.heap.size 43 (u 11) (u 13) (X 6) w #[.int .i64 B.k, .int .i64 B.t, .int .i64 B.r, .int .i64 B.x] ∧
  (u 10 → u 11 → X 5 ≠ X 6)

set_option maxHeartbeats 4000000 in
theorem sub_v {w : World} {base g : Nat} {P : Pg} {S : St} {vc vk vg vn : Value} (h : Mem w base g P S vc vk vg vn) (hp : S.pc < 1048576) (op : Int) (nar reg : Bool) (size dst src off imm : Int) (hd0 : 0 ≤ dst ∧ dst < 11) (hs : reg = true → 0 ≤ src ∧ src < 11) :
    Calls Tryz.prog 53 #[.pointer (some ⟨g, 0, none⟩), .agg #[.int .i64 op, .bool nar, .bool reg, .int .i64 size, .int .i64 dst, .int .i64 src, .int .i64 off, .int .i64 imm]] w (Went base g P vc vk vg vn (subL P S ⟨op, nar, reg, size, dst, src, off, imm⟩) w) := by
  obtain ⟨d, rfl⟩ := Int.eq_ofNat_of_zero_le hd0.1
  have hdn : d < 11 := by omega
  have hd' : (d : Int) < 11 := by omega
  obtain ⟨A, hA⟩ : ∃ A, S.regs d = A := ⟨_, rfl⟩
  obtain ⟨B, hB⟩ : ∃ B, secL S ⟨op, nar, reg, size, d, src, off, imm⟩ = B := ⟨_, rfl⟩
  have HL := Lib.hid (show subL P S ⟨op, nar, reg, size, d, src, off, imm⟩ = if (!nar && (A.isPtr && B.isNum)) = true then movedL P S d A (-(distL B.x)) else if (!nar && (A.isFix && (A.k == B.k))) = true then setL P S d (V.num (wrap64 (A.x - B.x))) else joinL P S ⟨op, nar, reg, size, d, src, off, imm⟩ by
    unfold subL; rw [hB]; simp only [Int.toNat_natCast]; rw [hA])
  have HA := Lib.hid hA
  have HS1 := Lib.hid hs
  have hM1 := h.alloc (.cells #[.int .i64 op, .bool nar, .bool reg, .int .i64 size, .int .i64 d, .int .i64 src, .int .i64 off, .int .i64 imm] 57)
  have hI1 := Blk.new w 57 #[.int .i64 op, .bool nar, .bool reg, .int .i64 size, .int .i64 d, .int .i64 src, .int .i64 off, .int .i64 imm]
  have hT1 := Touch.alloc (g := g) w (.cells #[.int .i64 op, .bool nar, .bool reg, .int .i64 size, .int .i64 d, .int .i64 src, .int .i64 off, .int .i64 imm] 57)
  have hgm := h.fb.lt
  clear h
  go_enter Tryz.func53, Tryz.ntmps53
  go_upto_region 1 with (fail)
  generalize (w.alloc (.cells #[.int .i64 op, .bool nar, .bool reg, .int .i64 size, .int .i64 d, .int .i64 src, .int .i64 off, .int .i64 imm] 57)) = w1 at *
  generalize w.heap.size = m at *
  have HS := Lib.hid (fun wv (hb : Below w1.heap.size w1 wv) => second_u (hM1.up hb) op nar reg size d src off imm HS1.out B hB)
  have HM1 := Lib.hid hM1
  have HI1 := Lib.hid hI1
  have HT1 := Lib.hid hT1
  clear hM1 hI1 hT1 hA hB hs hd0
  refine Inv.wp_region_inv [5, 6, 7, 8, 9, 10, 11, 12, 13, 14, 15, 16] (SubR w1 g m d op nar reg size src off imm A B) (by kernel_rfl) (by kernel_rfl) [0, 1, 2, 3, 4, 5, 6, 7, 8, 9, 10, 11, 12, 13] (by kernel_rfl) ?_ ?_ ?_
  · exact ⟨bdrw (Below.refl _ _), fun h => h.elim, fun h => h.elim, fun h => h.elim, fun h => h.elim, fun h => h.elim, fun h => h.elim, fun h => h.elim, fun h => h.elim, fun h => h.elim, fun h => h.elim, SlotM.no, SlotM.no, fun h => h.elim⟩
  · refine Inv.AllInv.cons ({ dst := some 7, op := Op.move (Operand.tmp 0), type := 31, pos := "join.go:42", after := #[], guard := none }) rfl rfl [] (by kernel_rfl) ?_ ?_
    · intro Q2 u X wv hR hu hd K hK
      obtain ⟨q0, q1, q2, q3, q4, q5, q6, q7, q8, q9, q10, q11, q12, q13⟩ := hR
      refine ⟨?_⟩
      simp only [Inv.puts, Act.put, List.setIfInBounds_toArray, List.set_cons_zero, List.set_cons_succ] at hK
      simp only [Inv.puts, Act.put, List.setIfInBounds_toArray, List.set_cons_zero, List.set_cons_succ]
      go_simp
      refine hK.out (Inv.upd X 7 (.pointer (some ⟨g, 0, none⟩))) _ ?_
      exact ⟨q0, fun _ => rfl, fun h => q2 (h.resolve_left (by decide)), fun h => q3 (h.resolve_left (by decide)), fun h => q4 (h.resolve_left (by decide)), fun h => q5 (h.resolve_left (by decide)), fun h => q6 (h.resolve_left (by decide)), fun h => q7 (h.resolve_left (by decide)), fun h => q8 (h.resolve_left (by decide)), fun h => q9 (h.resolve_left (by decide)), fun h => q10 (h.resolve_left (by decide)), (q11.step (by decide) (by decide)), (q12.step (by decide) (by decide)), fun h h2 => q13 (h.resolve_left (by decide)) (h2.resolve_left (by decide))⟩
    refine Inv.AllInv.cons ({ dst := some 8, op := Op.fieldAddr 57 (Operand.tmp 3) 4, type := 0, pos := "join.go:42", after := #[], guard := none }) rfl rfl [] (by kernel_rfl) ?_ ?_
    · intro Q2 u X wv hR hu hd K hK
      obtain ⟨q0, q1, q2, q3, q4, q5, q6, q7, q8, q9, q10, q11, q12, q13⟩ := hR
      refine ⟨?_⟩
      simp only [Inv.puts, Act.put, List.setIfInBounds_toArray, List.set_cons_zero, List.set_cons_succ] at hK
      simp only [Inv.puts, Act.put, List.setIfInBounds_toArray, List.set_cons_zero, List.set_cons_succ]
      go_simp
      refine hK.out (Inv.upd X 8 (.pointer (some ⟨m, 4, none⟩))) _ ?_
      exact ⟨q0, fun h => q1 (h.resolve_left (by decide)), fun _ => rfl, fun h => q3 (h.resolve_left (by decide)), fun h => q4 (h.resolve_left (by decide)), fun h => q5 (h.resolve_left (by decide)), fun h => q6 (h.resolve_left (by decide)), fun h => q7 (h.resolve_left (by decide)), fun h => q8 (h.resolve_left (by decide)), fun h => q9 (h.resolve_left (by decide)), fun h => q10 (h.resolve_left (by decide)), (q11.step (by decide) (by decide)), (q12.step (by decide) (by decide)), fun h h2 => q13 (h.resolve_left (by decide)) (h2.resolve_left (by decide))⟩
    refine Inv.AllInv.cons ({ dst := some 9, op := Op.load 3 (Operand.tmp 8), type := 3, pos := "join.go:42", after := #[{ on := 1, ground := Ground.data }], guard := none }) rfl rfl [1] (by kernel_rfl) ?_ ?_
    · intro Q2 u X wv hR hu hd K hK
      obtain ⟨q0, q1, q2, q3, q4, q5, q6, q7, q8, q9, q10, q11, q12, q13⟩ := hR
      have e2 := q2 hd.1
      obtain ⟨c0, c1, c2, c3, c4, c5, c6, c7⟩ := (HI1.out.up q0).eight
      refine ⟨?_⟩
      simp only [Inv.puts, Act.put, List.setIfInBounds_toArray, List.set_cons_zero, List.set_cons_succ] at hK
      simp only [Inv.puts, Act.put, List.setIfInBounds_toArray, List.set_cons_zero, List.set_cons_succ, e2]
      go_simp
      refine hK.out (Inv.upd (Inv.upd X 8 (.pointer (some ⟨m, 4, none⟩))) 9 (.int .i64 (d : Int))) _ ?_
      rw [Inv.upd_same e2]
      exact ⟨q0, fun h => q1 (h.resolve_left (by decide)), fun h => q2 (h.resolve_left (by decide)), fun _ => rfl, fun h => q4 (h.resolve_left (by decide)), fun h => q5 (h.resolve_left (by decide)), fun h => q6 (h.resolve_left (by decide)), fun h => q7 (h.resolve_left (by decide)), fun h => q8 (h.resolve_left (by decide)), fun h => q9 (h.resolve_left (by decide)), fun h => q10 (h.resolve_left (by decide)), (q11.step (by decide) (by decide)), (q12.step (by decide) (by decide)), fun h h2 => q13 (h.resolve_left (by decide)) (h2.resolve_left (by decide))⟩
    refine Inv.AllInv.cons ({ dst := some 10, op := Op.nilCheck (Operand.tmp 7), type := 0, pos := "join.go:42", after := #[{ on := 0, ground := Ground.data }], guard := none }) rfl rfl [0] (by kernel_rfl) ?_ ?_
    · intro Q2 u X wv hR hu hd K hK
      obtain ⟨q0, q1, q2, q3, q4, q5, q6, q7, q8, q9, q10, q11, q12, q13⟩ := hR
      have e1 := q1 hd.1
      refine ⟨?_⟩
      simp only [Inv.puts, Act.put, List.setIfInBounds_toArray, List.set_cons_zero, List.set_cons_succ] at hK
      simp only [Inv.puts, Act.put, List.setIfInBounds_toArray, List.set_cons_zero, List.set_cons_succ, e1]
      go_simp
      refine hK.out (Inv.upd (Inv.upd X 7 (.pointer (some ⟨g, 0, none⟩))) 10 (.pointer (some ⟨g, 0, none⟩))) _ ?_
      rw [Inv.upd_same e1]
      exact ⟨q0, fun h => q1 (h.resolve_left (by decide)), fun h => q2 (h.resolve_left (by decide)), fun h => q3 (h.resolve_left (by decide)), fun _ => rfl, fun h => q5 (h.resolve_left (by decide)), fun h => q6 (h.resolve_left (by decide)), fun h => q7 (h.resolve_left (by decide)), fun h => q8 (h.resolve_left (by decide)), fun h => q9 (h.resolve_left (by decide)), fun h => q10 (h.resolve_left (by decide)), (q11.step (by decide) (by decide)), (q12.step (by decide) (by decide)), fun h h2 => q13 (h.resolve_left (by decide)) (h2.resolve_left (by decide))⟩
    refine Inv.AllInv.cons ({ dst := some 11, op := Op.fieldAddr 72 (Operand.tmp 10) 3, type := 0, pos := "join.go:42", after := #[{ on := 3, ground := Ground.data }], guard := none }) rfl rfl [3] (by kernel_rfl) ?_ ?_
    · intro Q2 u X wv hR hu hd K hK
      obtain ⟨q0, q1, q2, q3, q4, q5, q6, q7, q8, q9, q10, q11, q12, q13⟩ := hR
      have e4 := q4 hd.1
      refine ⟨?_⟩
      simp only [Inv.puts, Act.put, List.setIfInBounds_toArray, List.set_cons_zero, List.set_cons_succ] at hK
      simp only [Inv.puts, Act.put, List.setIfInBounds_toArray, List.set_cons_zero, List.set_cons_succ, e4]
      go_simp
      refine hK.out (Inv.upd (Inv.upd X 10 (.pointer (some ⟨g, 0, none⟩))) 11 (.pointer (some ⟨g, 422, none⟩))) _ ?_
      rw [Inv.upd_same e4]
      exact ⟨q0, fun h => q1 (h.resolve_left (by decide)), fun h => q2 (h.resolve_left (by decide)), fun h => q3 (h.resolve_left (by decide)), fun h => q4 (h.resolve_left (by decide)), fun _ => rfl, fun h => q6 (h.resolve_left (by decide)), fun h => q7 (h.resolve_left (by decide)), fun h => q8 (h.resolve_left (by decide)), fun h => q9 (h.resolve_left (by decide)), fun h => q10 (h.resolve_left (by decide)), (q11.step (by decide) (by decide)), (q12.step (by decide) (by decide)), fun h h2 => q13 (h.resolve_left (by decide)) (h2.resolve_left (by decide))⟩
    refine Inv.AllInv.cons ({ dst := some 12, op := Op.indexAddr 44 (Operand.tmp 11) (Operand.tmp 9), type := 0, pos := "join.go:42", after := #[{ on := 4, ground := Ground.data }, { on := 2, ground := Ground.data }], guard := none }) rfl rfl [4, 2] (by kernel_rfl) ?_ ?_
    · intro Q2 u X wv hR hu hd K hK
      obtain ⟨q0, q1, q2, q3, q4, q5, q6, q7, q8, q9, q10, q11, q12, q13⟩ := hR
      have e3 := q3 hd.2.1
      have e5 := q5 hd.1
      have hd8 := hd'
      refine ⟨?_⟩
      simp only [Inv.puts, Act.put, List.setIfInBounds_toArray, List.set_cons_zero, List.set_cons_succ] at hK
      simp only [Inv.puts, Act.put, List.setIfInBounds_toArray, List.set_cons_zero, List.set_cons_succ, e3, e5]
      go_simp
      refine hK.out (Inv.upd (Inv.upd (Inv.upd X 9 (.int .i64 (d : Int))) 11 (.pointer (some ⟨g, 422, none⟩))) 12 (.pointer (some ⟨g, 422 + d * 4, none⟩))) _ ?_
      rw [Inv.upd_same e3, Inv.upd_same e5]
      exact ⟨q0, fun h => q1 (h.resolve_left (by decide)), fun h => q2 (h.resolve_left (by decide)), fun h => q3 (h.resolve_left (by decide)), fun h => q4 (h.resolve_left (by decide)), fun h => q5 (h.resolve_left (by decide)), fun _ => rfl, fun h => q7 (h.resolve_left (by decide)), fun h => q8 (h.resolve_left (by decide)), fun h => q9 (h.resolve_left (by decide)), fun h => q10 (h.resolve_left (by decide)), (q11.step (by decide) (by decide)), (q12.step (by decide) (by decide)), fun h h2 => q13 (h.resolve_left (by decide)) (h2.resolve_left (by decide))⟩
    refine Inv.AllInv.cons ({ dst := some 13, op := Op.load 43 (Operand.tmp 12), type := 43, pos := "join.go:42", after := #[{ on := 5, ground := Ground.data }], guard := none }) rfl rfl [5] (by kernel_rfl) ?_ ?_
    · intro Q2 u X wv hR hu hd K hK
      obtain ⟨q0, q1, q2, q3, q4, q5, q6, q7, q8, q9, q10, q11, q12, q13⟩ := hR
      have e6 := q6 hd.1
      obtain ⟨c0, c1, c2, c3⟩ := (HM1.out.up q0).reg d hdn
      rw [HA.out] at c0 c1 c2 c3
      refine ⟨?_⟩
      simp only [Inv.puts, Act.put, List.setIfInBounds_toArray, List.set_cons_zero, List.set_cons_succ] at hK
      simp only [Inv.puts, Act.put, List.setIfInBounds_toArray, List.set_cons_zero, List.set_cons_succ, e6]
      go_simp
      refine hK.out (Inv.upd (Inv.upd X 12 (.pointer (some ⟨g, 422 + d * 4, none⟩))) 13 (.agg #[.int .i64 A.k, .int .i64 A.t, .int .i64 A.r, .int .i64 A.x])) _ ?_
      rw [Inv.upd_same e6]
      exact ⟨q0, fun h => q1 (h.resolve_left (by decide)), fun h => q2 (h.resolve_left (by decide)), fun h => q3 (h.resolve_left (by decide)), fun h => q4 (h.resolve_left (by decide)), fun h => q5 (h.resolve_left (by decide)), fun h => q6 (h.resolve_left (by decide)), fun _ => rfl, fun h => q8 (h.resolve_left (by decide)), fun h => q9 (h.resolve_left (by decide)), fun h => q10 (h.resolve_left (by decide)), (q11.step (by decide) (by decide)), (q12.step (by decide) (by decide)), fun h h2 => q13 (h.resolve_left (by decide)) (h2.resolve_left (by decide))⟩
    refine Inv.AllInv.cons ({ dst := some 14, op := Op.move (Operand.tmp 0), type := 31, pos := "join.go:42", after := #[], guard := none }) rfl rfl [] (by kernel_rfl) ?_ ?_
    · intro Q2 u X wv hR hu hd K hK
      obtain ⟨q0, q1, q2, q3, q4, q5, q6, q7, q8, q9, q10, q11, q12, q13⟩ := hR
      refine ⟨?_⟩
      simp only [Inv.puts, Act.put, List.setIfInBounds_toArray, List.set_cons_zero, List.set_cons_succ] at hK
      simp only [Inv.puts, Act.put, List.setIfInBounds_toArray, List.set_cons_zero, List.set_cons_succ]
      go_simp
      refine hK.out (Inv.upd X 14 (.pointer (some ⟨g, 0, none⟩))) _ ?_
      exact ⟨q0, fun h => q1 (h.resolve_left (by decide)), fun h => q2 (h.resolve_left (by decide)), fun h => q3 (h.resolve_left (by decide)), fun h => q4 (h.resolve_left (by decide)), fun h => q5 (h.resolve_left (by decide)), fun h => q6 (h.resolve_left (by decide)), fun h => q7 (h.resolve_left (by decide)), fun _ => rfl, fun h => q9 (h.resolve_left (by decide)), fun h => q10 (h.resolve_left (by decide)), (q11.step (by decide) (by decide)), (q12.step (by decide) (by decide)), fun h h2 => q13 (h.resolve_left (by decide)) (h2.resolve_left (by decide))⟩
    refine Inv.AllInv.cons ({ dst := some 15, op := Op.load 57 (Operand.tmp 3), type := 57, pos := "join.go:42", after := #[], guard := none }) rfl rfl [] (by kernel_rfl) ?_ ?_
    · intro Q2 u X wv hR hu hd K hK
      obtain ⟨q0, q1, q2, q3, q4, q5, q6, q7, q8, q9, q10, q11, q12, q13⟩ := hR
      obtain ⟨c0, c1, c2, c3, c4, c5, c6, c7⟩ := (HI1.out.up q0).eight
      refine ⟨?_⟩
      simp only [Inv.puts, Act.put, List.setIfInBounds_toArray, List.set_cons_zero, List.set_cons_succ] at hK
      simp only [Inv.puts, Act.put, List.setIfInBounds_toArray, List.set_cons_zero, List.set_cons_succ]
      go_simp
      refine hK.out (Inv.upd X 15 (.agg #[.int .i64 op, .bool nar, .bool reg, .int .i64 size, .int .i64 (d : Int), .int .i64 src, .int .i64 off, .int .i64 imm])) _ ?_
      exact ⟨q0, fun h => q1 (h.resolve_left (by decide)), fun h => q2 (h.resolve_left (by decide)), fun h => q3 (h.resolve_left (by decide)), fun h => q4 (h.resolve_left (by decide)), fun h => q5 (h.resolve_left (by decide)), fun h => q6 (h.resolve_left (by decide)), fun h => q7 (h.resolve_left (by decide)), fun h => q8 (h.resolve_left (by decide)), fun _ => rfl, fun h => q10 (h.resolve_left (by decide)), (q11.step (by decide) (by decide)), (q12.step (by decide) (by decide)), fun h h2 => q13 (h.resolve_left (by decide)) (h2.resolve_left (by decide))⟩
    refine Inv.AllInv.cons ({ dst := some 16, op := Op.call { callee := Callee.value (Operand.func 74), args := #[Operand.tmp 14, Operand.tmp 15], argTypes := #[31, 57] }, type := 43, pos := "join.go:42", after := #[{ on := 7, ground := Ground.data }, { on := 8, ground := Ground.data }], guard := none }) rfl rfl [7, 8] (by kernel_rfl) ?_ ?_
    · intro Q2 u X wv hR hu hd K hK
      obtain ⟨q0, q1, q2, q3, q4, q5, q6, q7, q8, q9, q10, q11, q12, q13⟩ := hR
      have e8 := q8 hd.1
      have e9 := q9 hd.2.1
      refine ⟨?_⟩
      simp only [Inv.puts, Act.put, List.setIfInBounds_toArray, List.set_cons_zero, List.set_cons_succ] at hK
      simp only [Inv.puts, Act.put, List.setIfInBounds_toArray, List.set_cons_zero, List.set_cons_succ, e8, e9]
      go_simp
      go_at_call 74
      refine (HS.out wv q0).mono ?_
      rintro e wn ⟨rfl, hB⟩
      refine hK.out (Inv.upd (Inv.upd (Inv.upd X 14 (.pointer (some ⟨g, 0, none⟩))) 15 (.agg #[.int .i64 op, .bool nar, .bool reg, .int .i64 size, .int .i64 (d : Int), .int .i64 src, .int .i64 off, .int .i64 imm])) 16 (.agg #[.int .i64 B.k, .int .i64 B.t, .int .i64 B.r, .int .i64 B.x])) _ ?_
      rw [Inv.upd_same e8, Inv.upd_same e9]
      exact ⟨q0.trans (hB.mono q0.size), fun h => q1 (h.resolve_left (by decide)), fun h => q2 (h.resolve_left (by decide)), fun h => q3 (h.resolve_left (by decide)), fun h => q4 (h.resolve_left (by decide)), fun h => q5 (h.resolve_left (by decide)), fun h => q6 (h.resolve_left (by decide)), fun h => q7 (h.resolve_left (by decide)), fun h => q8 (h.resolve_left (by decide)), fun h => q9 (h.resolve_left (by decide)), fun _ => rfl, (q11.step (by decide) (by decide)).up hB, (q12.step (by decide) (by decide)).up hB, fun h h2 => q13 (h.resolve_left (by decide)) (h2.resolve_left (by decide))⟩
    refine Inv.AllInv.cons ({ dst := some 5, op := Op.alloc 43, type := 0, pos := "join.go:42", after := #[], guard := none }) rfl rfl [] (by kernel_rfl) ?_ ?_
    · intro Q2 u X wv hR hu hd K hK
      obtain ⟨q0, q1, q2, q3, q4, q5, q6, q7, q8, q9, q10, q11, q12, q13⟩ := hR
      refine ⟨?_⟩
      simp only [Inv.puts, Act.put, List.setIfInBounds_toArray, List.set_cons_zero, List.set_cons_succ] at hK
      simp only [Inv.puts, Act.put, List.setIfInBounds_toArray, List.set_cons_zero, List.set_cons_succ]
      go_simp
      refine hK.out (Inv.upd X 5 (.pointer (some ⟨wv.heap.size, 0, none⟩))) _ ?_
      exact ⟨q0.alloc q0.size _, fun h => q1 (h.resolve_left (by decide)), fun h => q2 (h.resolve_left (by decide)), fun h => q3 (h.resolve_left (by decide)), fun h => q4 (h.resolve_left (by decide)), fun h => q5 (h.resolve_left (by decide)), fun h => q6 (h.resolve_left (by decide)), fun h => q7 (h.resolve_left (by decide)), fun h => q8 (h.resolve_left (by decide)), fun h => q9 (h.resolve_left (by decide)), fun h => q10 (h.resolve_left (by decide)), q11.made hu (by decide) q0.size rfl, (q12.step (by decide) (by decide)).up (box1 _ _), fun _ h => (q12.ne (h.resolve_left (by decide))).symm⟩
    refine Inv.AllInv.cons ({ dst := some 6, op := Op.alloc 43, type := 0, pos := "join.go:42", after := #[], guard := none }) rfl rfl [] (by kernel_rfl) ?_ ?_
    · intro Q2 u X wv hR hu hd K hK
      obtain ⟨q0, q1, q2, q3, q4, q5, q6, q7, q8, q9, q10, q11, q12, q13⟩ := hR
      refine ⟨?_⟩
      simp only [Inv.puts, Act.put, List.setIfInBounds_toArray, List.set_cons_zero, List.set_cons_succ] at hK
      simp only [Inv.puts, Act.put, List.setIfInBounds_toArray, List.set_cons_zero, List.set_cons_succ]
      go_simp
      refine hK.out (Inv.upd X 6 (.pointer (some ⟨wv.heap.size, 0, none⟩))) _ ?_
      exact ⟨q0.alloc q0.size _, fun h => q1 (h.resolve_left (by decide)), fun h => q2 (h.resolve_left (by decide)), fun h => q3 (h.resolve_left (by decide)), fun h => q4 (h.resolve_left (by decide)), fun h => q5 (h.resolve_left (by decide)), fun h => q6 (h.resolve_left (by decide)), fun h => q7 (h.resolve_left (by decide)), fun h => q8 (h.resolve_left (by decide)), fun h => q9 (h.resolve_left (by decide)), fun h => q10 (h.resolve_left (by decide)), (q11.step (by decide) (by decide)).up (box1 _ _), q12.made hu (by decide) q0.size rfl, fun h _ => q11.ne (h.resolve_left (by decide))⟩
    refine Inv.AllInv.cons ({ dst := none, op := Op.store 43 (Operand.tmp 5) (Operand.tmp 13), type := 0, pos := "join.go:42", after := #[{ on := 10, ground := Ground.data }, { on := 6, ground := Ground.data }, { on := 9, ground := Ground.chain }, { on := 0, ground := Ground.phase }, { on := 1, ground := Ground.phase }, { on := 2, ground := Ground.phase }, { on := 3, ground := Ground.phase }, { on := 4, ground := Ground.phase }, { on := 5, ground := Ground.phase }, { on := 6, ground := Ground.phase }, { on := 7, ground := Ground.textOnly Departure.lateStores }, { on := 8, ground := Ground.textOnly Departure.lateStores }, { on := 9, ground := Ground.textOnly Departure.lateStoresUnsure }, { on := 10, ground := Ground.phase }, { on := 11, ground := Ground.phase }], guard := none }) rfl rfl [10, 6, 9, 0, 1, 2, 3, 4, 5, 6, 10, 11] (by kernel_rfl) ?_ ?_
    · intro Q2 u X wv hR hu hd K hK
      obtain ⟨q0, q1, q2, q3, q4, q5, q6, q7, q8, q9, q10, q11, q12, q13⟩ := hR
      have e7 := q7 hd.2.1
      have ha := hd.1
      obtain ⟨g, zs, eX, hg, hz, hBz, -⟩ := q11.2 ha
      obtain ⟨z0, z1, z2, z3, rfl⟩ := arr4_of hz
      obtain ⟨⟨b0, b1, b2, b3⟩, f0, f1, f2, f3⟩ := hBz.four
      have hBx := hBz.set4 (.int .i64 A.k) (.int .i64 A.t) (.int .i64 A.r) (.int .i64 A.x)
      have hT := Touch.set4 (g := g) wv 0 1 2 3 (.int .i64 A.k) (.int .i64 A.t) (.int .i64 A.r) (.int .i64 A.x)
      refine ⟨?_⟩
      simp only [Inv.puts, Act.put, List.setIfInBounds_toArray, List.set_cons_zero, List.set_cons_succ] at hK
      simp only [Inv.puts, Act.put, List.setIfInBounds_toArray, List.set_cons_zero, List.set_cons_succ, e7, eX]
      go_simp
      refine hK.out (Inv.upd (Inv.upd X 13 (.agg #[.int .i64 A.k, .int .i64 A.t, .int .i64 A.r, .int .i64 A.x])) 5 (.pointer (some ⟨g, 0, none⟩))) _ ?_
      rw [Inv.upd_same e7, Inv.upd_same eX]
      exact ⟨below_touch q0 hT hg q0.size, fun h => q1 (h.resolve_left (by decide)), fun h => q2 (h.resolve_left (by decide)), fun h => q3 (h.resolve_left (by decide)), fun h => q4 (h.resolve_left (by decide)), fun h => q5 (h.resolve_left (by decide)), fun h => q6 (h.resolve_left (by decide)), fun h => q7 (h.resolve_left (by decide)), fun h => q8 (h.resolve_left (by decide)), fun h => q9 (h.resolve_left (by decide)), fun h => q10 (h.resolve_left (by decide)), by rw [show _ = _ from eX]; exact SlotM.stored hg ha hBx, (q12.step (by decide) (by decide)).far hT (fun h => fun e => q13 ha (h.resolve_left (by decide)) (eX.trans e.symm)), fun h h2 => q13 (h.resolve_left (by decide)) (h2.resolve_left (by decide))⟩
    refine Inv.AllInv.cons ({ dst := none, op := Op.store 43 (Operand.tmp 6) (Operand.tmp 16), type := 0, pos := "join.go:42", after := #[{ on := 11, ground := Ground.data }, { on := 9, ground := Ground.data }, { on := 12, ground := Ground.chain }, { on := 0, ground := Ground.phase }, { on := 1, ground := Ground.phase }, { on := 2, ground := Ground.phase }, { on := 3, ground := Ground.phase }, { on := 4, ground := Ground.phase }, { on := 5, ground := Ground.phase }, { on := 6, ground := Ground.phase }, { on := 7, ground := Ground.phase }, { on := 8, ground := Ground.phase }, { on := 9, ground := Ground.phase }, { on := 10, ground := Ground.phase }, { on := 11, ground := Ground.phase }, { on := 12, ground := Ground.phase }], guard := none }) rfl rfl [11, 9, 12, 0, 1, 2, 3, 4, 5, 6, 7, 8, 9, 10, 11, 12] (by kernel_rfl) ?_ ?_
    · intro Q2 u X wv hR hu hd K hK
      obtain ⟨q0, q1, q2, q3, q4, q5, q6, q7, q8, q9, q10, q11, q12, q13⟩ := hR
      have e10 := q10 hd.2.1
      have ha := hd.1
      obtain ⟨g, zs, eX, hg, hz, hBz, -⟩ := q12.2 ha
      obtain ⟨z0, z1, z2, z3, rfl⟩ := arr4_of hz
      obtain ⟨⟨b0, b1, b2, b3⟩, f0, f1, f2, f3⟩ := hBz.four
      have hBx := hBz.set4 (.int .i64 B.k) (.int .i64 B.t) (.int .i64 B.r) (.int .i64 B.x)
      have hT := Touch.set4 (g := g) wv 0 1 2 3 (.int .i64 B.k) (.int .i64 B.t) (.int .i64 B.r) (.int .i64 B.x)
      refine ⟨?_⟩
      simp only [Inv.puts, Act.put, List.setIfInBounds_toArray, List.set_cons_zero, List.set_cons_succ] at hK
      simp only [Inv.puts, Act.put, List.setIfInBounds_toArray, List.set_cons_zero, List.set_cons_succ, e10, eX]
      go_simp
      refine hK.out (Inv.upd (Inv.upd X 16 (.agg #[.int .i64 B.k, .int .i64 B.t, .int .i64 B.r, .int .i64 B.x])) 6 (.pointer (some ⟨g, 0, none⟩))) _ ?_
      rw [Inv.upd_same e10, Inv.upd_same eX]
      exact ⟨below_touch q0 hT hg q0.size, fun h => q1 (h.resolve_left (by decide)), fun h => q2 (h.resolve_left (by decide)), fun h => q3 (h.resolve_left (by decide)), fun h => q4 (h.resolve_left (by decide)), fun h => q5 (h.resolve_left (by decide)), fun h => q6 (h.resolve_left (by decide)), fun h => q7 (h.resolve_left (by decide)), fun h => q8 (h.resolve_left (by decide)), fun h => q9 (h.resolve_left (by decide)), fun h => q10 (h.resolve_left (by decide)), (q11.step (by decide) (by decide)).far hT (fun h => fun e => q13 (h.resolve_left (by decide)) ha (e.trans eX.symm)), by rw [show _ = _ from eX]; exact SlotM.stored hg ha hBx, fun h h2 => q13 (h.resolve_left (by decide)) (h2.resolve_left (by decide))⟩
    exact Inv.AllInv.nil
  · intro u X wv hd hR
    obtain ⟨q0, q1, q2, q3, q4, q5, q6, q7, q8, q9, q10, q11, q12, q13⟩ := hR
    obtain ⟨u0, u1, u2, u3, u4, u5, u6, u7, u8, u9, u10, u11, u12, u13, -⟩ := hd
    obtain ⟨p0, ep0, hp0, hP0⟩ := q11.full u12
    obtain ⟨p1, ep1, hp1, hP1⟩ := q12.full u13
    have hne01 : p0 ≠ p1 := fun e => q13 u10 u11 (by rw [ep0, ep1, e])
    simp only [Inv.puts, Act.put, List.setIfInBounds_toArray, List.set_cons_zero, List.set_cons_succ, q1 u0, q2 u1, q3 u2, q4 u3, q5 u4, q6 u5, q7 u6, q8 u7, q9 u8, q10 u9, ep0, ep1]
    have HQ0 := Lib.hid q0
    clear q0 q1 q2 q3 q4 q5 q6 q7 q8 q9 q10 q11 q12 q13
    clear ep0 ep1 u0 u1 u2 u3 u4 u5 u6 u7 u8 u9 u10 u11 u12 u13
    have hM2 := HM1.out.up HQ0.out
    have hI2 := HI1.out.up HQ0.out
    have hT2 := HT1.out.trans (Touch.of_below HQ0.out)
    have hmg : m ≠ g := by omega
    have hpg0 : p0 ≠ g := by have := HI1.out.lt; omega
    have hpg1 : p1 ≠ g := by have := HI1.out.lt; omega
    clear HM1 HI1 HT1 HQ0 HA hp0 hp1
    clear HS
    have HM0 := Lib.hid hM2
    have HI0 := Lib.hid hI2
    have HT0 := Lib.hid hT2
    have HP00 := Lib.hid hP0
    have HP10 := Lib.hid hP1
    clear hM2 hI2 hT2 hP0 hP1
    obtain ⟨c0, c1, c2, c3, c4, c5, c6, c7⟩ := HI0.out.eight
    obtain ⟨⟨x00, x01, x02, x03⟩, -⟩ := HP00.out.four
    obtain ⟨⟨x10, x11, x12, x13⟩, -⟩ := HP10.out.four
    cases nar
    · cases tA : A.isPtr
      · have tF := fix_ptr tA
        have HE := Lib.hid HL.out
        rw [tA, tF] at HE
        simp only [Bool.not_false, Bool.not_true, Bool.true_and, Bool.false_and, Bool.and_true, Bool.and_false, Bool.false_eq_true, if_false, if_true] at HE
        go_wp2_with fail
        go_at_call 75
        refine (isPtr_u A false tA _).mono ?_
        rintro e y1 ⟨rfl, hB1⟩
        have HM1 := Lib.hid (HM0.out.up hB1)
        have HI1 := Lib.hid (HI0.out.up hB1)
        have HT1 := Lib.hid (HT0.out.trans (Touch.of_below hB1))
        have HP01 := Lib.hid (HP00.out.up hB1)
        have HP11 := Lib.hid (HP10.out.up hB1)
        clear hB1
        clear c0 c1 c2 c3 c4 c5 c6 c7 x00 x01 x02 x03 x10 x11 x12 x13
        obtain ⟨c0, c1, c2, c3, c4, c5, c6, c7⟩ := HI1.out.eight
        obtain ⟨⟨x00, x01, x02, x03⟩, -⟩ := HP01.out.four
        obtain ⟨⟨x10, x11, x12, x13⟩, -⟩ := HP11.out.four
        go_wp2_with fail
        go_at_call 79
        refine (isFix_u A false tF _).mono ?_
        rintro e y2 ⟨rfl, hB2⟩
        have HM2 := Lib.hid (HM1.out.up hB2)
        have HI2 := Lib.hid (HI1.out.up hB2)
        have HT2 := Lib.hid (HT1.out.trans (Touch.of_below hB2))
        have HP02 := Lib.hid (HP01.out.up hB2)
        have HP12 := Lib.hid (HP11.out.up hB2)
        clear hB2
        clear c0 c1 c2 c3 c4 c5 c6 c7 x00 x01 x02 x03 x10 x11 x12 x13
        obtain ⟨c0, c1, c2, c3, c4, c5, c6, c7⟩ := HI2.out.eight
        obtain ⟨⟨x00, x01, x02, x03⟩, -⟩ := HP02.out.four
        obtain ⟨⟨x10, x11, x12, x13⟩, -⟩ := HP12.out.four
        go_wp2_with fail
        go_at_call 65
        refine (join_v HM2.out hp op false reg size d src off imm ⟨by omega, hd'⟩ HS1.out).mono ?_
        rintro e yz ⟨rfl, hMz, hTz⟩
        go_wp2_with fail
        go_ret
        unfold Went
        rw [HE.out]
        exact ⟨rfl, hMz, HT2.out.trans hTz⟩
      · cases tB : B.isNum
        · cases tF : A.isFix
          · have HE := Lib.hid HL.out
            rw [tA, tB, tF] at HE
            simp only [Bool.not_false, Bool.not_true, Bool.true_and, Bool.false_and, Bool.and_true, Bool.and_false, Bool.false_eq_true, if_false, if_true] at HE
            go_wp2_with fail
            go_at_call 75
            refine (isPtr_u A true tA _).mono ?_
            rintro e y1 ⟨rfl, hB1⟩
            have HM1 := Lib.hid (HM0.out.up hB1)
            have HI1 := Lib.hid (HI0.out.up hB1)
            have HT1 := Lib.hid (HT0.out.trans (Touch.of_below hB1))
            have HP01 := Lib.hid (HP00.out.up hB1)
            have HP11 := Lib.hid (HP10.out.up hB1)
            clear hB1
            clear c0 c1 c2 c3 c4 c5 c6 c7 x00 x01 x02 x03 x10 x11 x12 x13
            obtain ⟨c0, c1, c2, c3, c4, c5, c6, c7⟩ := HI1.out.eight
            obtain ⟨⟨x00, x01, x02, x03⟩, -⟩ := HP01.out.four
            obtain ⟨⟨x10, x11, x12, x13⟩, -⟩ := HP11.out.four
            go_wp2_with fail
            go_at_call 76
            refine (isNum_u B false tB _).mono ?_
            rintro e y2 ⟨rfl, hB2⟩
            have HM2 := Lib.hid (HM1.out.up hB2)
            have HI2 := Lib.hid (HI1.out.up hB2)
            have HT2 := Lib.hid (HT1.out.trans (Touch.of_below hB2))
            have HP02 := Lib.hid (HP01.out.up hB2)
            have HP12 := Lib.hid (HP11.out.up hB2)
            clear hB2
            clear c0 c1 c2 c3 c4 c5 c6 c7 x00 x01 x02 x03 x10 x11 x12 x13
            obtain ⟨c0, c1, c2, c3, c4, c5, c6, c7⟩ := HI2.out.eight
            obtain ⟨⟨x00, x01, x02, x03⟩, -⟩ := HP02.out.four
            obtain ⟨⟨x10, x11, x12, x13⟩, -⟩ := HP12.out.four
            go_wp2_with fail
            go_at_call 79
            refine (isFix_u A false tF _).mono ?_
            rintro e y3 ⟨rfl, hB3⟩
            have HM3 := Lib.hid (HM2.out.up hB3)
            have HI3 := Lib.hid (HI2.out.up hB3)
            have HT3 := Lib.hid (HT2.out.trans (Touch.of_below hB3))
            have HP03 := Lib.hid (HP02.out.up hB3)
            have HP13 := Lib.hid (HP12.out.up hB3)
            clear hB3
            clear c0 c1 c2 c3 c4 c5 c6 c7 x00 x01 x02 x03 x10 x11 x12 x13
            obtain ⟨c0, c1, c2, c3, c4, c5, c6, c7⟩ := HI3.out.eight
            obtain ⟨⟨x00, x01, x02, x03⟩, -⟩ := HP03.out.four
            obtain ⟨⟨x10, x11, x12, x13⟩, -⟩ := HP13.out.four
            go_wp2_with fail
            go_at_call 65
            refine (join_v HM3.out hp op false reg size d src off imm ⟨by omega, hd'⟩ HS1.out).mono ?_
            rintro e yz ⟨rfl, hMz, hTz⟩
            go_wp2_with fail
            go_ret
            unfold Went
            rw [HE.out]
            exact ⟨rfl, hMz, HT3.out.trans hTz⟩
          · cases tK : (A.k == B.k)
            · have HE := Lib.hid HL.out
              rw [tA, tB, tF, tK] at HE
              simp only [Bool.not_false, Bool.not_true, Bool.true_and, Bool.false_and, Bool.and_true, Bool.and_false, Bool.false_eq_true, if_false, if_true] at HE
              go_wp2_with fail
              go_at_call 75
              refine (isPtr_u A true tA _).mono ?_
              rintro e y1 ⟨rfl, hB1⟩
              have HM1 := Lib.hid (HM0.out.up hB1)
              have HI1 := Lib.hid (HI0.out.up hB1)
              have HT1 := Lib.hid (HT0.out.trans (Touch.of_below hB1))
              have HP01 := Lib.hid (HP00.out.up hB1)
              have HP11 := Lib.hid (HP10.out.up hB1)
              clear hB1
              clear c0 c1 c2 c3 c4 c5 c6 c7 x00 x01 x02 x03 x10 x11 x12 x13
              obtain ⟨c0, c1, c2, c3, c4, c5, c6, c7⟩ := HI1.out.eight
              obtain ⟨⟨x00, x01, x02, x03⟩, -⟩ := HP01.out.four
              obtain ⟨⟨x10, x11, x12, x13⟩, -⟩ := HP11.out.four
              go_wp2_with fail
              go_at_call 76
              refine (isNum_u B false tB _).mono ?_
              rintro e y2 ⟨rfl, hB2⟩
              have HM2 := Lib.hid (HM1.out.up hB2)
              have HI2 := Lib.hid (HI1.out.up hB2)
              have HT2 := Lib.hid (HT1.out.trans (Touch.of_below hB2))
              have HP02 := Lib.hid (HP01.out.up hB2)
              have HP12 := Lib.hid (HP11.out.up hB2)
              clear hB2
              clear c0 c1 c2 c3 c4 c5 c6 c7 x00 x01 x02 x03 x10 x11 x12 x13
              obtain ⟨c0, c1, c2, c3, c4, c5, c6, c7⟩ := HI2.out.eight
              obtain ⟨⟨x00, x01, x02, x03⟩, -⟩ := HP02.out.four
              obtain ⟨⟨x10, x11, x12, x13⟩, -⟩ := HP12.out.four
              go_wp2_with fail
              go_at_call 79
              refine (isFix_u A true tF _).mono ?_
              rintro e y3 ⟨rfl, hB3⟩
              have HM3 := Lib.hid (HM2.out.up hB3)
              have HI3 := Lib.hid (HI2.out.up hB3)
              have HT3 := Lib.hid (HT2.out.trans (Touch.of_below hB3))
              have HP03 := Lib.hid (HP02.out.up hB3)
              have HP13 := Lib.hid (HP12.out.up hB3)
              clear hB3
              clear c0 c1 c2 c3 c4 c5 c6 c7 x00 x01 x02 x03 x10 x11 x12 x13
              obtain ⟨c0, c1, c2, c3, c4, c5, c6, c7⟩ := HI3.out.eight
              obtain ⟨⟨x00, x01, x02, x03⟩, -⟩ := HP03.out.four
              obtain ⟨⟨x10, x11, x12, x13⟩, -⟩ := HP13.out.four
              go_wp2_with fail
              go_at_call 65
              refine (join_v HM3.out hp op false reg size d src off imm ⟨by omega, hd'⟩ HS1.out).mono ?_
              rintro e yz ⟨rfl, hMz, hTz⟩
              go_wp2_with fail
              go_ret
              unfold Went
              rw [HE.out]
              exact ⟨rfl, hMz, HT3.out.trans hTz⟩
            · have HE := Lib.hid HL.out
              rw [tA, tB, tF, tK] at HE
              simp only [Bool.not_false, Bool.not_true, Bool.true_and, Bool.false_and, Bool.and_true, Bool.and_false, Bool.false_eq_true, if_false, if_true] at HE
              go_wp2_with fail
              go_at_call 75
              refine (isPtr_u A true tA _).mono ?_
              rintro e y1 ⟨rfl, hB1⟩
              have HM1 := Lib.hid (HM0.out.up hB1)
              have HI1 := Lib.hid (HI0.out.up hB1)
              have HT1 := Lib.hid (HT0.out.trans (Touch.of_below hB1))
              have HP01 := Lib.hid (HP00.out.up hB1)
              have HP11 := Lib.hid (HP10.out.up hB1)
              clear hB1
              clear c0 c1 c2 c3 c4 c5 c6 c7 x00 x01 x02 x03 x10 x11 x12 x13
              obtain ⟨c0, c1, c2, c3, c4, c5, c6, c7⟩ := HI1.out.eight
              obtain ⟨⟨x00, x01, x02, x03⟩, -⟩ := HP01.out.four
              obtain ⟨⟨x10, x11, x12, x13⟩, -⟩ := HP11.out.four
              go_wp2_with fail
              go_at_call 76
              refine (isNum_u B false tB _).mono ?_
              rintro e y2 ⟨rfl, hB2⟩
              have HM2 := Lib.hid (HM1.out.up hB2)
              have HI2 := Lib.hid (HI1.out.up hB2)
              have HT2 := Lib.hid (HT1.out.trans (Touch.of_below hB2))
              have HP02 := Lib.hid (HP01.out.up hB2)
              have HP12 := Lib.hid (HP11.out.up hB2)
              clear hB2
              clear c0 c1 c2 c3 c4 c5 c6 c7 x00 x01 x02 x03 x10 x11 x12 x13
              obtain ⟨c0, c1, c2, c3, c4, c5, c6, c7⟩ := HI2.out.eight
              obtain ⟨⟨x00, x01, x02, x03⟩, -⟩ := HP02.out.four
              obtain ⟨⟨x10, x11, x12, x13⟩, -⟩ := HP12.out.four
              go_wp2_with fail
              go_at_call 79
              refine (isFix_u A true tF _).mono ?_
              rintro e y3 ⟨rfl, hB3⟩
              have HM3 := Lib.hid (HM2.out.up hB3)
              have HI3 := Lib.hid (HI2.out.up hB3)
              have HT3 := Lib.hid (HT2.out.trans (Touch.of_below hB3))
              have HP03 := Lib.hid (HP02.out.up hB3)
              have HP13 := Lib.hid (HP12.out.up hB3)
              clear hB3
              clear c0 c1 c2 c3 c4 c5 c6 c7 x00 x01 x02 x03 x10 x11 x12 x13
              obtain ⟨c0, c1, c2, c3, c4, c5, c6, c7⟩ := HI3.out.eight
              obtain ⟨⟨x00, x01, x02, x03⟩, -⟩ := HP03.out.four
              obtain ⟨⟨x10, x11, x12, x13⟩, -⟩ := HP13.out.four
              have hwr : wrap64 (A.x - B.x) = IntKind.i64.wrap (A.x - B.x) := (IntWalk.i64_left _).symm
              rw [hwr] at HE
              clear hwr
              go_wp2_with fail
              go_region_held3 (fun w' => w'.cell? ⟨m, 4, none⟩ = some (.int .i64 (d : Int)) ∧ w'.cell? ⟨p0, 3, none⟩ = some (.int .i64 A.x) ∧ w'.cell? ⟨p1, 3, none⟩ = some (.int .i64 B.x))
                (first | exact ⟨(HI3.out.drew).cell 4, (HP03.out.drew).cell 3, (HP13.out.drew).cell 3⟩ | exact ⟨(HI3.out.drew.up hBn).cell 4, (HP03.out.drew.up hBn).cell 3, (HP13.out.drew.up hBn).cell 3⟩ | exact ⟨((HI3.out.drew.up hBn).touch hTz hmg).cell 4, ((HP03.out.drew.up hBn).touch hTz hpg0).cell 3, ((HP13.out.drew.up hBn).touch hTz hpg1).cell 3⟩ | fail)
                (first | (go_at_call 24; refine (num_u (IntKind.i64.wrap (A.x - B.x)) _).mono ?_; rintro e yn ⟨rfl, hBn⟩; have HMn := Lib.hid (HM3.out.drw.up hBn)) | (go_at_call 80; refine (set_v HMn.out hp d hdn 1 0 0 (IntKind.i64.wrap (A.x - B.x))).mono ?_; rintro e yz ⟨rfl, hMz, hTz⟩))
              go_wp2_with fail
              go_ret
              unfold Went
              rw [HE.out]
              exact ⟨rfl, hMz, (HT3.out.drw.trans (Touch.of_below hBn)).trans hTz⟩
        · have HE := Lib.hid HL.out
          rw [tA, tB] at HE
          simp only [Bool.not_false, Bool.not_true, Bool.true_and, Bool.false_and, Bool.and_true, Bool.and_false, Bool.false_eq_true, if_false, if_true] at HE
          go_wp2_with fail
          go_at_call 75
          refine (isPtr_u A true tA _).mono ?_
          rintro e y1 ⟨rfl, hB1⟩
          have HM1 := Lib.hid (HM0.out.up hB1)
          have HI1 := Lib.hid (HI0.out.up hB1)
          have HT1 := Lib.hid (HT0.out.trans (Touch.of_below hB1))
          have HP01 := Lib.hid (HP00.out.up hB1)
          have HP11 := Lib.hid (HP10.out.up hB1)
          clear hB1
          clear c0 c1 c2 c3 c4 c5 c6 c7 x00 x01 x02 x03 x10 x11 x12 x13
          obtain ⟨c0, c1, c2, c3, c4, c5, c6, c7⟩ := HI1.out.eight
          obtain ⟨⟨x00, x01, x02, x03⟩, -⟩ := HP01.out.four
          obtain ⟨⟨x10, x11, x12, x13⟩, -⟩ := HP11.out.four
          go_wp2_with fail
          go_at_call 76
          refine (isNum_u B true tB _).mono ?_
          rintro e y2 ⟨rfl, hB2⟩
          have HM2 := Lib.hid (HM1.out.up hB2)
          have HI2 := Lib.hid (HI1.out.up hB2)
          have HT2 := Lib.hid (HT1.out.trans (Touch.of_below hB2))
          have HP02 := Lib.hid (HP01.out.up hB2)
          have HP12 := Lib.hid (HP11.out.up hB2)
          clear hB2
          clear c0 c1 c2 c3 c4 c5 c6 c7 x00 x01 x02 x03 x10 x11 x12 x13
          obtain ⟨c0, c1, c2, c3, c4, c5, c6, c7⟩ := HI2.out.eight
          obtain ⟨⟨x00, x01, x02, x03⟩, -⟩ := HP02.out.four
          obtain ⟨⟨x10, x11, x12, x13⟩, -⟩ := HP12.out.four
          go_wp2_with fail
          refine wp_region_still_tail 8 (by kernel_rfl) (by kernel_rfl) ?_
          simp only [List.take_succ_cons, List.take_zero, List.drop_succ_cons, List.drop_zero]
          iterate 6 still_step
          still_call ((distance_v (B.x) _).mono fun _ _ ⟨h1, h2⟩ => ⟨h1, h2.symm⟩)
          iterate 1 still_step
          refine wpStill_nil ?_
          have hdr := dist_rng B.x
          generalize distL B.x = D at *
          go_wp2_with fail
          go_at_call 77
          refine (move_v HM2.out.drw hp d hdn A (-D)).mono ?_
          rintro e yz ⟨rfl, hMz, hTz⟩
          go_wp2_with fail
          go_ret
          unfold Went
          rw [HE.out]
          exact ⟨rfl, hMz, HT2.out.drw.trans hTz⟩
    · have HE := Lib.hid HL.out
      simp only [Bool.not_false, Bool.not_true, Bool.true_and, Bool.false_and, Bool.and_true, Bool.and_false, Bool.false_eq_true, if_false, if_true] at HE
      go_wp2_with fail
      go_at_call 65
      refine (join_v HM0.out hp op true reg size d src off imm ⟨by omega, hd'⟩ HS1.out).mono ?_
      rintro e yz ⟨rfl, hMz, hTz⟩
      go_wp2_with fail
      go_ret
      unfold Went
      rw [HE.out]
      exact ⟨rfl, hMz, HT0.out.trans hTz⟩
end Go.Proofs.YtpigkppnelnhiaaGreat
