/- Package mach: join. Written by gen_mcd.py. -/
import Derived.Test.YtpigkppnelnhiaaGreatMcI
namespace Go.Proofs.YtpigkppnelnhiaaGreat
open Go.ChangeShapes Go.WideShapes Go.ChangeAt Go.RowKit
set_option linter.unusedVariables false
set_option maxRecDepth 100000
theorem isNum_u (v : V) (b : Bool) (hb : v.isNum = b) (w : World) : Calls Tryz.prog 76 #[.agg #[.int .i64 v.k, .int .i64 v.t, .int .i64 v.r, .int .i64 v.x]] w fun e w' => e = .returned (.bool b) ∧ Below w.heap.size w w' := by
  rw [← hb]; exact isNumber_v _ _ _ _ w
theorem isPtr_u (v : V) (b : Bool) (hb : v.isPtr = b) (w : World) : Calls Tryz.prog 75 #[.agg #[.int .i64 v.k, .int .i64 v.t, .int .i64 v.r, .int .i64 v.x]] w fun e w' => e = .returned (.bool b) ∧ Below w.heap.size w w' := by
  rw [← hb]; exact isPointer_v _ _ _ _ w
theorem isFix_u (v : V) (b : Bool) (hb : v.isFix = b) (w : World) : Calls Tryz.prog 79 #[.agg #[.int .i64 v.k, .int .i64 v.t, .int .i64 v.r, .int .i64 v.x]] w fun e w' => e = .returned (.bool b) ∧ Below w.heap.size w w' := by
  rw [← hb]; exact isFixed_v _ _ _ _ w
/-- number, then set -/
theorem num_u (n : Int) (w : World) : Calls Tryz.prog 24 #[.int .i64 n] w fun e w' => e = .returned (.agg #[.int .i64 1, .int .i64 0, .int .i64 0, .int .i64 n]) ∧ Below w.heap.size w w' := number_v n w
theorem second_u {w : World} {base g : Nat} {P : Pg} {S : St} {vc vk vg vn : Value} (h : Mem w base g P S vc vk vg vn) (op : Int) (nar reg : Bool) (size dst src off imm : Int) (hs : reg = true → 0 ≤ src ∧ src < 11) (B : V) (hB : secL S ⟨op, nar, reg, size, dst, src, off, imm⟩ = B) :
    Calls Tryz.prog 74 #[.pointer (some ⟨g, 0, none⟩), .agg #[.int .i64 op, .bool nar, .bool reg, .int .i64 size, .int .i64 dst, .int .i64 src, .int .i64 off, .int .i64 imm]] w fun e w' => e = .returned (.agg #[.int .i64 B.k, .int .i64 B.t, .int .i64 B.r, .int .i64 B.x]) ∧ Below w.heap.size w w' := by
  rw [← hB]
  exact second_v h op nar reg size dst src off imm hs

/-- what holds, whatever has come up -/
def JoinR (w1 : World) (g m d : Nat) (op : Int) (nar reg : Bool) (size src off imm : Int) (A B : V) (u : Nat → Prop) (X : Tmp → Value) (w : World) : Prop :=
  Below w1.heap.size w1 w ∧
  (u 0 → X 9 = .pointer (some ⟨g, 0, none⟩)) ∧
  (u 1 → X 10 = .pointer (some ⟨m, 4, none⟩)) ∧
  (u 2 → X 11 = .int .i64 (d : Int)) ∧
  (u 3 → X 12 = .pointer (some ⟨g, 0, none⟩)) ∧
  (u 4 → X 13 = .pointer (some ⟨g, 422, none⟩)) ∧
  (u 5 → X 14 = .pointer (some ⟨g, 422 + d * 4, none⟩)) ∧
  (u 6 → X 15 = .agg #[.int .i64 A.k, .int .i64 A.t, .int .i64 A.r, .int .i64 A.x]) ∧
  (u 7 → X 16 = .pointer (some ⟨g, 0, none⟩)) ∧
  (u 8 → X 17 = .agg #[.int .i64 op, .bool nar, .bool reg, .int .i64 size, .int .i64 (d : Int), .int .i64 src, .int .i64 off, .int .i64 imm]) ∧
  (u 9 → X 18 = .agg #[.int .i64 B.k, .int .i64 B.t, .int .i64 B.r, .int .i64 B.x]) ∧
  SlotM w1.heap.size 43 (u 10) (u 12) (X 5) w #[.int .i64 A.k, .int .i64 A.t, .int .i64 A.r, .int .i64 A.x] ∧
  SlotM w1.heap.size 43 (u 11) (u 13) (X 6) w #[.int .i64 B.k, .int .i64 B.t, .int .i64 B.r, .int .i64 B.x] ∧
  (u 10 → u 11 → X 5 ≠ X 6)

set_option maxHeartbeats 4000000 in
theorem join_v {w : World} {base g : Nat} {P : Pg} {S : St} {vc vk vg vn : Value} (h : Mem w base g P S vc vk vg vn) (hp : S.pc < 1048576) (op : Int) (nar reg : Bool) (size dst src off imm : Int) (hd0 : 0 ≤ dst ∧ dst < 11) (hs : reg = true → 0 ≤ src ∧ src < 11) :
    Calls Tryz.prog 65 #[.pointer (some ⟨g, 0, none⟩), .agg #[.int .i64 op, .bool nar, .bool reg, .int .i64 size, .int .i64 dst, .int .i64 src, .int .i64 off, .int .i64 imm]] w (Went base g P vc vk vg vn (joinL P S ⟨op, nar, reg, size, dst, src, off, imm⟩) w) := by
  obtain ⟨d, rfl⟩ := Int.eq_ofNat_of_zero_le hd0.1
  have hdn : d < 11 := by omega
  have hd' : (d : Int) < 11 := by omega
  obtain ⟨A, hA⟩ : ∃ A, S.regs d = A := ⟨_, rfl⟩
  obtain ⟨B, hB⟩ : ∃ B, secL S ⟨op, nar, reg, size, d, src, off, imm⟩ = B := ⟨_, rfl⟩
  have HJ := Lib.hid (show joinL P S ⟨op, nar, reg, size, d, src, off, imm⟩ = if (A.isNum && B.isNum) = true then (if aluE op nar B.x = 0 then setL P S d (V.num (aluR op nar A.x B.x)) else (aluE op nar B.x, S)) else (80, S) by
    unfold joinL; rw [hB]; simp only [Int.toNat_natCast]; rw [hA])
  have HA := Lib.hid hA
  have HS1 := Lib.hid hs
  have hM1 := h.alloc (.cells #[.int .i64 op, .bool nar, .bool reg, .int .i64 size, .int .i64 d, .int .i64 src, .int .i64 off, .int .i64 imm] 57)
  have hI1 := Blk.new w 57 #[.int .i64 op, .bool nar, .bool reg, .int .i64 size, .int .i64 d, .int .i64 src, .int .i64 off, .int .i64 imm]
  have hT1 := Touch.alloc (g := g) w (.cells #[.int .i64 op, .bool nar, .bool reg, .int .i64 size, .int .i64 d, .int .i64 src, .int .i64 off, .int .i64 imm] 57)
  have hgm := h.fb.lt
  clear h
  go_enter Tryz.func65, Tryz.ntmps65
  go_upto_region 1 with (fail)
  generalize (w.alloc (.cells #[.int .i64 op, .bool nar, .bool reg, .int .i64 size, .int .i64 d, .int .i64 src, .int .i64 off, .int .i64 imm] 57)) = w1 at *
  generalize w.heap.size = m at *
  have HS := Lib.hid (fun wv (hb : Below w1.heap.size w1 wv) => second_u (hM1.up hb) op nar reg size d src off imm HS1.out B hB)
  have HM1 := Lib.hid hM1
  have HI1 := Lib.hid hI1
  have HT1 := Lib.hid hT1
  clear hM1 hI1 hT1 hA hB hs hd0
  refine Inv.wp_region_inv [5, 6, 9, 10, 11, 12, 13, 14, 15, 16, 17, 18] (JoinR w1 g m d op nar reg size src off imm A B) (by kernel_rfl) (by kernel_rfl) [0, 1, 2, 3, 4, 5, 6, 7, 8, 9, 10, 11, 12, 13] (by kernel_rfl) ?_ ?_ ?_
  · exact ⟨bdrw (Below.refl _ _), fun h => h.elim, fun h => h.elim, fun h => h.elim, fun h => h.elim, fun h => h.elim, fun h => h.elim, fun h => h.elim, fun h => h.elim, fun h => h.elim, fun h => h.elim, SlotM.no, SlotM.no, fun h => h.elim⟩
  · refine Inv.AllInv.cons ({ dst := some 9, op := Op.move (Operand.tmp 0), type := 31, pos := "join.go:16", after := #[], guard := none }) rfl rfl [] (by kernel_rfl) ?_ ?_
    · intro Q2 u X wv hR hu hd K hK
      obtain ⟨q0, q1, q2, q3, q4, q5, q6, q7, q8, q9, q10, q11, q12, q13⟩ := hR
      refine ⟨?_⟩
      simp only [Inv.puts, Act.put, List.setIfInBounds_toArray, List.set_cons_zero, List.set_cons_succ] at hK
      simp only [Inv.puts, Act.put, List.setIfInBounds_toArray, List.set_cons_zero, List.set_cons_succ]
      go_simp
      refine hK.out (Inv.upd X 9 (.pointer (some ⟨g, 0, none⟩))) _ ?_
      exact ⟨q0, fun _ => rfl, fun h => q2 (h.resolve_left (by decide)), fun h => q3 (h.resolve_left (by decide)), fun h => q4 (h.resolve_left (by decide)), fun h => q5 (h.resolve_left (by decide)), fun h => q6 (h.resolve_left (by decide)), fun h => q7 (h.resolve_left (by decide)), fun h => q8 (h.resolve_left (by decide)), fun h => q9 (h.resolve_left (by decide)), fun h => q10 (h.resolve_left (by decide)), (q11.step (by decide) (by decide)), (q12.step (by decide) (by decide)), fun h h2 => q13 (h.resolve_left (by decide)) (h2.resolve_left (by decide))⟩
    refine Inv.AllInv.cons ({ dst := some 10, op := Op.fieldAddr 57 (Operand.tmp 3) 4, type := 0, pos := "join.go:16", after := #[], guard := none }) rfl rfl [] (by kernel_rfl) ?_ ?_
    · intro Q2 u X wv hR hu hd K hK
      obtain ⟨q0, q1, q2, q3, q4, q5, q6, q7, q8, q9, q10, q11, q12, q13⟩ := hR
      refine ⟨?_⟩
      simp only [Inv.puts, Act.put, List.setIfInBounds_toArray, List.set_cons_zero, List.set_cons_succ] at hK
      simp only [Inv.puts, Act.put, List.setIfInBounds_toArray, List.set_cons_zero, List.set_cons_succ]
      go_simp
      refine hK.out (Inv.upd X 10 (.pointer (some ⟨m, 4, none⟩))) _ ?_
      exact ⟨q0, fun h => q1 (h.resolve_left (by decide)), fun _ => rfl, fun h => q3 (h.resolve_left (by decide)), fun h => q4 (h.resolve_left (by decide)), fun h => q5 (h.resolve_left (by decide)), fun h => q6 (h.resolve_left (by decide)), fun h => q7 (h.resolve_left (by decide)), fun h => q8 (h.resolve_left (by decide)), fun h => q9 (h.resolve_left (by decide)), fun h => q10 (h.resolve_left (by decide)), (q11.step (by decide) (by decide)), (q12.step (by decide) (by decide)), fun h h2 => q13 (h.resolve_left (by decide)) (h2.resolve_left (by decide))⟩
    refine Inv.AllInv.cons ({ dst := some 11, op := Op.load 3 (Operand.tmp 10), type := 3, pos := "join.go:16", after := #[{ on := 1, ground := Ground.data }], guard := none }) rfl rfl [1] (by kernel_rfl) ?_ ?_
    · intro Q2 u X wv hR hu hd K hK
      obtain ⟨q0, q1, q2, q3, q4, q5, q6, q7, q8, q9, q10, q11, q12, q13⟩ := hR
      have e2 := q2 hd.1
      obtain ⟨c0, c1, c2, c3, c4, c5, c6, c7⟩ := (HI1.out.up q0).eight
      refine ⟨?_⟩
      simp only [Inv.puts, Act.put, List.setIfInBounds_toArray, List.set_cons_zero, List.set_cons_succ] at hK
      simp only [Inv.puts, Act.put, List.setIfInBounds_toArray, List.set_cons_zero, List.set_cons_succ, e2]
      go_simp
      refine hK.out (Inv.upd (Inv.upd X 10 (.pointer (some ⟨m, 4, none⟩))) 11 (.int .i64 (d : Int))) _ ?_
      rw [Inv.upd_same e2]
      exact ⟨q0, fun h => q1 (h.resolve_left (by decide)), fun h => q2 (h.resolve_left (by decide)), fun _ => rfl, fun h => q4 (h.resolve_left (by decide)), fun h => q5 (h.resolve_left (by decide)), fun h => q6 (h.resolve_left (by decide)), fun h => q7 (h.resolve_left (by decide)), fun h => q8 (h.resolve_left (by decide)), fun h => q9 (h.resolve_left (by decide)), fun h => q10 (h.resolve_left (by decide)), (q11.step (by decide) (by decide)), (q12.step (by decide) (by decide)), fun h h2 => q13 (h.resolve_left (by decide)) (h2.resolve_left (by decide))⟩
    refine Inv.AllInv.cons ({ dst := some 12, op := Op.nilCheck (Operand.tmp 9), type := 0, pos := "join.go:16", after := #[{ on := 0, ground := Ground.data }], guard := none }) rfl rfl [0] (by kernel_rfl) ?_ ?_
    · intro Q2 u X wv hR hu hd K hK
      obtain ⟨q0, q1, q2, q3, q4, q5, q6, q7, q8, q9, q10, q11, q12, q13⟩ := hR
      have e1 := q1 hd.1
      refine ⟨?_⟩
      simp only [Inv.puts, Act.put, List.setIfInBounds_toArray, List.set_cons_zero, List.set_cons_succ] at hK
      simp only [Inv.puts, Act.put, List.setIfInBounds_toArray, List.set_cons_zero, List.set_cons_succ, e1]
      go_simp
      refine hK.out (Inv.upd (Inv.upd X 9 (.pointer (some ⟨g, 0, none⟩))) 12 (.pointer (some ⟨g, 0, none⟩))) _ ?_
      rw [Inv.upd_same e1]
      exact ⟨q0, fun h => q1 (h.resolve_left (by decide)), fun h => q2 (h.resolve_left (by decide)), fun h => q3 (h.resolve_left (by decide)), fun _ => rfl, fun h => q5 (h.resolve_left (by decide)), fun h => q6 (h.resolve_left (by decide)), fun h => q7 (h.resolve_left (by decide)), fun h => q8 (h.resolve_left (by decide)), fun h => q9 (h.resolve_left (by decide)), fun h => q10 (h.resolve_left (by decide)), (q11.step (by decide) (by decide)), (q12.step (by decide) (by decide)), fun h h2 => q13 (h.resolve_left (by decide)) (h2.resolve_left (by decide))⟩
    refine Inv.AllInv.cons ({ dst := some 13, op := Op.fieldAddr 72 (Operand.tmp 12) 3, type := 0, pos := "join.go:16", after := #[{ on := 3, ground := Ground.data }], guard := none }) rfl rfl [3] (by kernel_rfl) ?_ ?_
    · intro Q2 u X wv hR hu hd K hK
      obtain ⟨q0, q1, q2, q3, q4, q5, q6, q7, q8, q9, q10, q11, q12, q13⟩ := hR
      have e4 := q4 hd.1
      refine ⟨?_⟩
      simp only [Inv.puts, Act.put, List.setIfInBounds_toArray, List.set_cons_zero, List.set_cons_succ] at hK
      simp only [Inv.puts, Act.put, List.setIfInBounds_toArray, List.set_cons_zero, List.set_cons_succ, e4]
      go_simp
      refine hK.out (Inv.upd (Inv.upd X 12 (.pointer (some ⟨g, 0, none⟩))) 13 (.pointer (some ⟨g, 422, none⟩))) _ ?_
      rw [Inv.upd_same e4]
      exact ⟨q0, fun h => q1 (h.resolve_left (by decide)), fun h => q2 (h.resolve_left (by decide)), fun h => q3 (h.resolve_left (by decide)), fun h => q4 (h.resolve_left (by decide)), fun _ => rfl, fun h => q6 (h.resolve_left (by decide)), fun h => q7 (h.resolve_left (by decide)), fun h => q8 (h.resolve_left (by decide)), fun h => q9 (h.resolve_left (by decide)), fun h => q10 (h.resolve_left (by decide)), (q11.step (by decide) (by decide)), (q12.step (by decide) (by decide)), fun h h2 => q13 (h.resolve_left (by decide)) (h2.resolve_left (by decide))⟩
    refine Inv.AllInv.cons ({ dst := some 14, op := Op.indexAddr 44 (Operand.tmp 13) (Operand.tmp 11), type := 0, pos := "join.go:16", after := #[{ on := 4, ground := Ground.data }, { on := 2, ground := Ground.data }], guard := none }) rfl rfl [4, 2] (by kernel_rfl) ?_ ?_
    · intro Q2 u X wv hR hu hd K hK
      obtain ⟨q0, q1, q2, q3, q4, q5, q6, q7, q8, q9, q10, q11, q12, q13⟩ := hR
      have e3 := q3 hd.2.1
      have e5 := q5 hd.1
      have hd8 := hd'
      refine ⟨?_⟩
      simp only [Inv.puts, Act.put, List.setIfInBounds_toArray, List.set_cons_zero, List.set_cons_succ] at hK
      simp only [Inv.puts, Act.put, List.setIfInBounds_toArray, List.set_cons_zero, List.set_cons_succ, e3, e5]
      go_simp
      refine hK.out (Inv.upd (Inv.upd (Inv.upd X 11 (.int .i64 (d : Int))) 13 (.pointer (some ⟨g, 422, none⟩))) 14 (.pointer (some ⟨g, 422 + d * 4, none⟩))) _ ?_
      rw [Inv.upd_same e3, Inv.upd_same e5]
      exact ⟨q0, fun h => q1 (h.resolve_left (by decide)), fun h => q2 (h.resolve_left (by decide)), fun h => q3 (h.resolve_left (by decide)), fun h => q4 (h.resolve_left (by decide)), fun h => q5 (h.resolve_left (by decide)), fun _ => rfl, fun h => q7 (h.resolve_left (by decide)), fun h => q8 (h.resolve_left (by decide)), fun h => q9 (h.resolve_left (by decide)), fun h => q10 (h.resolve_left (by decide)), (q11.step (by decide) (by decide)), (q12.step (by decide) (by decide)), fun h h2 => q13 (h.resolve_left (by decide)) (h2.resolve_left (by decide))⟩
    refine Inv.AllInv.cons ({ dst := some 15, op := Op.load 43 (Operand.tmp 14), type := 43, pos := "join.go:16", after := #[{ on := 5, ground := Ground.data }], guard := none }) rfl rfl [5] (by kernel_rfl) ?_ ?_
    · intro Q2 u X wv hR hu hd K hK
      obtain ⟨q0, q1, q2, q3, q4, q5, q6, q7, q8, q9, q10, q11, q12, q13⟩ := hR
      have e6 := q6 hd.1
      obtain ⟨c0, c1, c2, c3⟩ := (HM1.out.up q0).reg d hdn
      rw [HA.out] at c0 c1 c2 c3
      refine ⟨?_⟩
      simp only [Inv.puts, Act.put, List.setIfInBounds_toArray, List.set_cons_zero, List.set_cons_succ] at hK
      simp only [Inv.puts, Act.put, List.setIfInBounds_toArray, List.set_cons_zero, List.set_cons_succ, e6]
      go_simp
      refine hK.out (Inv.upd (Inv.upd X 14 (.pointer (some ⟨g, 422 + d * 4, none⟩))) 15 (.agg #[.int .i64 A.k, .int .i64 A.t, .int .i64 A.r, .int .i64 A.x])) _ ?_
      rw [Inv.upd_same e6]
      exact ⟨q0, fun h => q1 (h.resolve_left (by decide)), fun h => q2 (h.resolve_left (by decide)), fun h => q3 (h.resolve_left (by decide)), fun h => q4 (h.resolve_left (by decide)), fun h => q5 (h.resolve_left (by decide)), fun h => q6 (h.resolve_left (by decide)), fun _ => rfl, fun h => q8 (h.resolve_left (by decide)), fun h => q9 (h.resolve_left (by decide)), fun h => q10 (h.resolve_left (by decide)), (q11.step (by decide) (by decide)), (q12.step (by decide) (by decide)), fun h h2 => q13 (h.resolve_left (by decide)) (h2.resolve_left (by decide))⟩
    refine Inv.AllInv.cons ({ dst := some 16, op := Op.move (Operand.tmp 0), type := 31, pos := "join.go:16", after := #[], guard := none }) rfl rfl [] (by kernel_rfl) ?_ ?_
    · intro Q2 u X wv hR hu hd K hK
      obtain ⟨q0, q1, q2, q3, q4, q5, q6, q7, q8, q9, q10, q11, q12, q13⟩ := hR
      refine ⟨?_⟩
      simp only [Inv.puts, Act.put, List.setIfInBounds_toArray, List.set_cons_zero, List.set_cons_succ] at hK
      simp only [Inv.puts, Act.put, List.setIfInBounds_toArray, List.set_cons_zero, List.set_cons_succ]
      go_simp
      refine hK.out (Inv.upd X 16 (.pointer (some ⟨g, 0, none⟩))) _ ?_
      exact ⟨q0, fun h => q1 (h.resolve_left (by decide)), fun h => q2 (h.resolve_left (by decide)), fun h => q3 (h.resolve_left (by decide)), fun h => q4 (h.resolve_left (by decide)), fun h => q5 (h.resolve_left (by decide)), fun h => q6 (h.resolve_left (by decide)), fun h => q7 (h.resolve_left (by decide)), fun _ => rfl, fun h => q9 (h.resolve_left (by decide)), fun h => q10 (h.resolve_left (by decide)), (q11.step (by decide) (by decide)), (q12.step (by decide) (by decide)), fun h h2 => q13 (h.resolve_left (by decide)) (h2.resolve_left (by decide))⟩
    refine Inv.AllInv.cons ({ dst := some 17, op := Op.load 57 (Operand.tmp 3), type := 57, pos := "join.go:16", after := #[], guard := none }) rfl rfl [] (by kernel_rfl) ?_ ?_
    · intro Q2 u X wv hR hu hd K hK
      obtain ⟨q0, q1, q2, q3, q4, q5, q6, q7, q8, q9, q10, q11, q12, q13⟩ := hR
      obtain ⟨c0, c1, c2, c3, c4, c5, c6, c7⟩ := (HI1.out.up q0).eight
      refine ⟨?_⟩
      simp only [Inv.puts, Act.put, List.setIfInBounds_toArray, List.set_cons_zero, List.set_cons_succ] at hK
      simp only [Inv.puts, Act.put, List.setIfInBounds_toArray, List.set_cons_zero, List.set_cons_succ]
      go_simp
      refine hK.out (Inv.upd X 17 (.agg #[.int .i64 op, .bool nar, .bool reg, .int .i64 size, .int .i64 (d : Int), .int .i64 src, .int .i64 off, .int .i64 imm])) _ ?_
      exact ⟨q0, fun h => q1 (h.resolve_left (by decide)), fun h => q2 (h.resolve_left (by decide)), fun h => q3 (h.resolve_left (by decide)), fun h => q4 (h.resolve_left (by decide)), fun h => q5 (h.resolve_left (by decide)), fun h => q6 (h.resolve_left (by decide)), fun h => q7 (h.resolve_left (by decide)), fun h => q8 (h.resolve_left (by decide)), fun _ => rfl, fun h => q10 (h.resolve_left (by decide)), (q11.step (by decide) (by decide)), (q12.step (by decide) (by decide)), fun h h2 => q13 (h.resolve_left (by decide)) (h2.resolve_left (by decide))⟩
    refine Inv.AllInv.cons ({ dst := some 18, op := Op.call { callee := Callee.value (Operand.func 74), args := #[Operand.tmp 16, Operand.tmp 17], argTypes := #[31, 57] }, type := 43, pos := "join.go:16", after := #[{ on := 7, ground := Ground.data }, { on := 8, ground := Ground.data }], guard := none }) rfl rfl [7, 8] (by kernel_rfl) ?_ ?_
    · intro Q2 u X wv hR hu hd K hK
      obtain ⟨q0, q1, q2, q3, q4, q5, q6, q7, q8, q9, q10, q11, q12, q13⟩ := hR
      have e8 := q8 hd.1
      have e9 := q9 hd.2.1
      refine ⟨?_⟩
      simp only [Inv.puts, Act.put, List.setIfInBounds_toArray, List.set_cons_zero, List.set_cons_succ] at hK
      simp only [Inv.puts, Act.put, List.setIfInBounds_toArray, List.set_cons_zero, List.set_cons_succ, e8, e9]
      go_simp
      go_at_call 74
      refine (HS.out wv q0).mono ?_
      rintro e wn ⟨rfl, hB⟩
      refine hK.out (Inv.upd (Inv.upd (Inv.upd X 16 (.pointer (some ⟨g, 0, none⟩))) 17 (.agg #[.int .i64 op, .bool nar, .bool reg, .int .i64 size, .int .i64 (d : Int), .int .i64 src, .int .i64 off, .int .i64 imm])) 18 (.agg #[.int .i64 B.k, .int .i64 B.t, .int .i64 B.r, .int .i64 B.x])) _ ?_
      rw [Inv.upd_same e8, Inv.upd_same e9]
      exact ⟨q0.trans (hB.mono q0.size), fun h => q1 (h.resolve_left (by decide)), fun h => q2 (h.resolve_left (by decide)), fun h => q3 (h.resolve_left (by decide)), fun h => q4 (h.resolve_left (by decide)), fun h => q5 (h.resolve_left (by decide)), fun h => q6 (h.resolve_left (by decide)), fun h => q7 (h.resolve_left (by decide)), fun h => q8 (h.resolve_left (by decide)), fun h => q9 (h.resolve_left (by decide)), fun _ => rfl, (q11.step (by decide) (by decide)).up hB, (q12.step (by decide) (by decide)).up hB, fun h h2 => q13 (h.resolve_left (by decide)) (h2.resolve_left (by decide))⟩
    refine Inv.AllInv.cons ({ dst := some 5, op := Op.alloc 43, type := 0, pos := "join.go:16", after := #[], guard := none }) rfl rfl [] (by kernel_rfl) ?_ ?_
    · intro Q2 u X wv hR hu hd K hK
      obtain ⟨q0, q1, q2, q3, q4, q5, q6, q7, q8, q9, q10, q11, q12, q13⟩ := hR
      refine ⟨?_⟩
      simp only [Inv.puts, Act.put, List.setIfInBounds_toArray, List.set_cons_zero, List.set_cons_succ] at hK
      simp only [Inv.puts, Act.put, List.setIfInBounds_toArray, List.set_cons_zero, List.set_cons_succ]
      go_simp
      refine hK.out (Inv.upd X 5 (.pointer (some ⟨wv.heap.size, 0, none⟩))) _ ?_
      exact ⟨q0.alloc q0.size _, fun h => q1 (h.resolve_left (by decide)), fun h => q2 (h.resolve_left (by decide)), fun h => q3 (h.resolve_left (by decide)), fun h => q4 (h.resolve_left (by decide)), fun h => q5 (h.resolve_left (by decide)), fun h => q6 (h.resolve_left (by decide)), fun h => q7 (h.resolve_left (by decide)), fun h => q8 (h.resolve_left (by decide)), fun h => q9 (h.resolve_left (by decide)), fun h => q10 (h.resolve_left (by decide)), q11.made hu (by decide) q0.size rfl, (q12.step (by decide) (by decide)).up (box1 _ _), fun _ h => (q12.ne (h.resolve_left (by decide))).symm⟩
    refine Inv.AllInv.cons ({ dst := some 6, op := Op.alloc 43, type := 0, pos := "join.go:16", after := #[], guard := none }) rfl rfl [] (by kernel_rfl) ?_ ?_
    · intro Q2 u X wv hR hu hd K hK
      obtain ⟨q0, q1, q2, q3, q4, q5, q6, q7, q8, q9, q10, q11, q12, q13⟩ := hR
      refine ⟨?_⟩
      simp only [Inv.puts, Act.put, List.setIfInBounds_toArray, List.set_cons_zero, List.set_cons_succ] at hK
      simp only [Inv.puts, Act.put, List.setIfInBounds_toArray, List.set_cons_zero, List.set_cons_succ]
      go_simp
      refine hK.out (Inv.upd X 6 (.pointer (some ⟨wv.heap.size, 0, none⟩))) _ ?_
      exact ⟨q0.alloc q0.size _, fun h => q1 (h.resolve_left (by decide)), fun h => q2 (h.resolve_left (by decide)), fun h => q3 (h.resolve_left (by decide)), fun h => q4 (h.resolve_left (by decide)), fun h => q5 (h.resolve_left (by decide)), fun h => q6 (h.resolve_left (by decide)), fun h => q7 (h.resolve_left (by decide)), fun h => q8 (h.resolve_left (by decide)), fun h => q9 (h.resolve_left (by decide)), fun h => q10 (h.resolve_left (by decide)), (q11.step (by decide) (by decide)).up (box1 _ _), q12.made hu (by decide) q0.size rfl, fun h _ => q11.ne (h.resolve_left (by decide))⟩
    refine Inv.AllInv.cons ({ dst := none, op := Op.store 43 (Operand.tmp 5) (Operand.tmp 15), type := 0, pos := "join.go:16", after := #[{ on := 10, ground := Ground.data }, { on := 6, ground := Ground.data }, { on := 9, ground := Ground.chain }, { on := 0, ground := Ground.phase }, { on := 1, ground := Ground.phase }, { on := 2, ground := Ground.phase }, { on := 3, ground := Ground.phase }, { on := 4, ground := Ground.phase }, { on := 5, ground := Ground.phase }, { on := 6, ground := Ground.phase }, { on := 7, ground := Ground.textOnly Departure.lateStores }, { on := 8, ground := Ground.textOnly Departure.lateStores }, { on := 9, ground := Ground.textOnly Departure.lateStoresUnsure }, { on := 10, ground := Ground.phase }, { on := 11, ground := Ground.phase }], guard := none }) rfl rfl [10, 6, 9, 0, 1, 2, 3, 4, 5, 6, 10, 11] (by kernel_rfl) ?_ ?_
    · intro Q2 u X wv hR hu hd K hK
      obtain ⟨q0, q1, q2, q3, q4, q5, q6, q7, q8, q9, q10, q11, q12, q13⟩ := hR
      have e7 := q7 hd.2.1
      have ha := hd.1
      obtain ⟨g, zs, eX, hg, hz, hBz, -⟩ := q11.2 ha
      obtain ⟨z0, z1, z2, z3, rfl⟩ := arr4_of hz
      obtain ⟨⟨b0, b1, b2, b3⟩, f0, f1, f2, f3⟩ := hBz.four
      have hBx := hBz.set4 (.int .i64 A.k) (.int .i64 A.t) (.int .i64 A.r) (.int .i64 A.x)
      have hT := Touch.set4 (g := g) wv 0 1 2 3 (.int .i64 A.k) (.int .i64 A.t) (.int .i64 A.r) (.int .i64 A.x)
      refine ⟨?_⟩
      simp only [Inv.puts, Act.put, List.setIfInBounds_toArray, List.set_cons_zero, List.set_cons_succ] at hK
      simp only [Inv.puts, Act.put, List.setIfInBounds_toArray, List.set_cons_zero, List.set_cons_succ, e7, eX]
      go_simp
      refine hK.out (Inv.upd (Inv.upd X 15 (.agg #[.int .i64 A.k, .int .i64 A.t, .int .i64 A.r, .int .i64 A.x])) 5 (.pointer (some ⟨g, 0, none⟩))) _ ?_
      rw [Inv.upd_same e7, Inv.upd_same eX]
      exact ⟨below_touch q0 hT hg q0.size, fun h => q1 (h.resolve_left (by decide)), fun h => q2 (h.resolve_left (by decide)), fun h => q3 (h.resolve_left (by decide)), fun h => q4 (h.resolve_left (by decide)), fun h => q5 (h.resolve_left (by decide)), fun h => q6 (h.resolve_left (by decide)), fun h => q7 (h.resolve_left (by decide)), fun h => q8 (h.resolve_left (by decide)), fun h => q9 (h.resolve_left (by decide)), fun h => q10 (h.resolve_left (by decide)), by rw [show _ = _ from eX]; exact SlotM.stored hg ha hBx, (q12.step (by decide) (by decide)).far hT (fun h => fun e => q13 ha (h.resolve_left (by decide)) (eX.trans e.symm)), fun h h2 => q13 (h.resolve_left (by decide)) (h2.resolve_left (by decide))⟩
    refine Inv.AllInv.cons ({ dst := none, op := Op.store 43 (Operand.tmp 6) (Operand.tmp 18), type := 0, pos := "join.go:16", after := #[{ on := 11, ground := Ground.data }, { on := 9, ground := Ground.data }, { on := 12, ground := Ground.chain }, { on := 0, ground := Ground.phase }, { on := 1, ground := Ground.phase }, { on := 2, ground := Ground.phase }, { on := 3, ground := Ground.phase }, { on := 4, ground := Ground.phase }, { on := 5, ground := Ground.phase }, { on := 6, ground := Ground.phase }, { on := 7, ground := Ground.phase }, { on := 8, ground := Ground.phase }, { on := 9, ground := Ground.phase }, { on := 10, ground := Ground.phase }, { on := 11, ground := Ground.phase }, { on := 12, ground := Ground.phase }], guard := none }) rfl rfl [11, 9, 12, 0, 1, 2, 3, 4, 5, 6, 7, 8, 9, 10, 11, 12] (by kernel_rfl) ?_ ?_
    · intro Q2 u X wv hR hu hd K hK
      obtain ⟨q0, q1, q2, q3, q4, q5, q6, q7, q8, q9, q10, q11, q12, q13⟩ := hR
      have e10 := q10 hd.2.1
      have ha := hd.1
      obtain ⟨g, zs, eX, hg, hz, hBz, -⟩ := q12.2 ha
      obtain ⟨z0, z1, z2, z3, rfl⟩ := arr4_of hz
      obtain ⟨⟨b0, b1, b2, b3⟩, f0, f1, f2, f3⟩ := hBz.four
      have hBx := hBz.set4 (.int .i64 B.k) (.int .i64 B.t) (.int .i64 B.r) (.int .i64 B.x)
      have hT := Touch.set4 (g := g) wv 0 1 2 3 (.int .i64 B.k) (.int .i64 B.t) (.int .i64 B.r) (.int .i64 B.x)
      refine ⟨?_⟩
      simp only [Inv.puts, Act.put, List.setIfInBounds_toArray, List.set_cons_zero, List.set_cons_succ] at hK
      simp only [Inv.puts, Act.put, List.setIfInBounds_toArray, List.set_cons_zero, List.set_cons_succ, e10, eX]
      go_simp
      refine hK.out (Inv.upd (Inv.upd X 18 (.agg #[.int .i64 B.k, .int .i64 B.t, .int .i64 B.r, .int .i64 B.x])) 6 (.pointer (some ⟨g, 0, none⟩))) _ ?_
      rw [Inv.upd_same e10, Inv.upd_same eX]
      exact ⟨below_touch q0 hT hg q0.size, fun h => q1 (h.resolve_left (by decide)), fun h => q2 (h.resolve_left (by decide)), fun h => q3 (h.resolve_left (by decide)), fun h => q4 (h.resolve_left (by decide)), fun h => q5 (h.resolve_left (by decide)), fun h => q6 (h.resolve_left (by decide)), fun h => q7 (h.resolve_left (by decide)), fun h => q8 (h.resolve_left (by decide)), fun h => q9 (h.resolve_left (by decide)), fun h => q10 (h.resolve_left (by decide)), (q11.step (by decide) (by decide)).far hT (fun h => fun e => q13 (h.resolve_left (by decide)) ha (e.trans eX.symm)), by rw [show _ = _ from eX]; exact SlotM.stored hg ha hBx, fun h h2 => q13 (h.resolve_left (by decide)) (h2.resolve_left (by decide))⟩
    exact Inv.AllInv.nil
  · intro u X wv hd hR
    obtain ⟨q0, q1, q2, q3, q4, q5, q6, q7, q8, q9, q10, q11, q12, q13⟩ := hR
    obtain ⟨u0, u1, u2, u3, u4, u5, u6, u7, u8, u9, u10, u11, u12, u13, -⟩ := hd
    obtain ⟨p0, ep0, hp0, hP0⟩ := q11.full u12
    obtain ⟨p1, ep1, hp1, hP1⟩ := q12.full u13
    have hne01 : p0 ≠ p1 := fun e => q13 u10 u11 (by rw [ep0, ep1, e])
    simp only [Inv.puts, Act.put, List.setIfInBounds_toArray, List.set_cons_zero, List.set_cons_succ, q1 u0, q2 u1, q3 u2, q4 u3, q5 u4, q6 u5, q7 u6, q8 u7, q9 u8, q10 u9, ep0, ep1]
    have HQ0 := Lib.hid q0
    clear q0 q1 q2 q3 q4 q5 q6 q7 q8 q9 q10 q11 q12 q13
    clear ep0 ep1 u0 u1 u2 u3 u4 u5 u6 u7 u8 u9 u10 u11 u12 u13
    have hM2 := HM1.out.up HQ0.out
    have hI2 := HI1.out.up HQ0.out
    have hT2 := HT1.out.trans (Touch.of_below HQ0.out)
    obtain ⟨c0, c1, c2, c3, c4, c5, c6, c7⟩ := hI2.eight
    obtain ⟨⟨a0, a1, a2, a3⟩, -⟩ := hP0.four
    have HM2 := Lib.hid hM2
    have HI2 := Lib.hid hI2
    have HT2 := Lib.hid hT2
    have HPA := Lib.hid hP0
    have HPB := Lib.hid hP1
    clear hM2 hI2 hT2 hP0 hP1 HM1 HI1 HT1 HQ0 HS HA hp0 hp1
    cases tA : A.isNum
    · go_wp2_with fail
      go_at_call 76
      refine (isNum_u A false tA _).mono ?_
      rintro e w2 ⟨rfl, hB2⟩
      go_wp2_with fail
      go_ret
      unfold Went
      rw [HJ.out, tA, Bool.false_and, if_neg Bool.false_ne_true]
      exact ⟨rfl, HM2.out.up hB2, HT2.out.trans (Touch.of_below hB2)⟩
    · go_upto_region 2 with (fail)
      go_wp2_with fail
      go_at_call 76
      refine (isNum_u A true tA _).mono ?_
      rintro e w2 ⟨rfl, hB2⟩
      obtain ⟨⟨b0, b1, b2, b3⟩, -⟩ := (HPB.out.up hB2).four
      cases tB : B.isNum
      · go_wp2_with fail
        go_at_call 76
        refine (isNum_u B false tB _).mono ?_
        rintro e w3 ⟨rfl, hB3⟩
        go_wp2_with fail
        go_ret
        unfold Went
        rw [HJ.out, tA, tB, Bool.and_false, if_neg Bool.false_ne_true]
        exact ⟨rfl, (HM2.out.up hB2).up hB3, (HT2.out.trans (Touch.of_below hB2)).trans (Touch.of_below hB3)⟩
      · go_wp2_with fail
        go_at_call 76
        refine (isNum_u B true tB _).mono ?_
        rintro e w3 ⟨rfl, hB3⟩
        have hI3 := (HI2.out.up hB2).up hB3
        have HM3 := Lib.hid ((HM2.out.up hB2).up hB3)
        have HT3 := Lib.hid ((HT2.out.trans (Touch.of_below hB2)).trans (Touch.of_below hB3))
        obtain ⟨d0, d1, d2, d3, d4, d5, d6, d7⟩ := hI3.eight
        obtain ⟨⟨e0, e1, e2, e3⟩, -⟩ := ((HPA.out.up hB2).up hB3).four
        obtain ⟨⟨g0, g1, g2, g3⟩, -⟩ := ((HPB.out.up hB2).up hB3).four
        have HI3 := Lib.hid hI3
        clear hI3 hB2 hB3 HM2 HT2 HI2 HPA HPB
        have HJ2 := Lib.hid HJ.out
        rw [tA, tB] at HJ2
        have HJ3 := Lib.hid (HJ2.out.trans (if_pos rfl))
        clear HJ HJ2 tA tB
        have HAl := Lib.hid (fun w => alu_any op nar A.x B.x w)
        cases tE : (aluE op nar B.x == 0)
        · have HE := Lib.hid (HJ3.out.trans (if_neg (ne_of_beq_false tE)))
          have tE' : (aluE op nar B.x != 0) = true := by simp [bne, tE]
          clear HJ3
          go_wp2_with fail
          go_at_call 81
          refine (HAl.out _).mono ?_
          rintro e w4 ⟨rfl, hB4⟩
          generalize aluE op nar B.x = E at *
          generalize aluR op nar A.x B.x = R at *
          go_wp2_with fail
          go_ret
          unfold Went
          rw [HE.out]
          exact ⟨rfl, HM3.out.up hB4, HT3.out.trans (Touch.of_below hB4)⟩
        · have HE := Lib.hid (HJ3.out.trans (if_pos (eq_of_beq tE)))
          have tE0 : aluE op nar B.x = 0 := eq_of_beq tE
          clear HJ3 tE
          rw [tE0] at HAl
          go_wp2_with fail
          go_at_call 81
          refine (HAl.out _).mono ?_
          rintro e w4 ⟨rfl, hB4⟩
          have HM4 := Lib.hid (HM3.out.up hB4)
          have HT4 := Lib.hid (HT3.out.trans (Touch.of_below hB4))
          have HI4 := Lib.hid (HI3.out.up hB4)
          have hgm2 : m ≠ g := by omega
          clear hB4 HAl
          generalize aluR op nar A.x B.x = R at *
          go_wp2_with fail
          go_region_held3 (fun w' => w'.cell? ⟨m, 4, none⟩ = some (.int .i64 (d : Int)))
            (first | exact HI4.out.drew.cell 4 | exact (HI4.out.drew.up hB5).cell 4 | exact ((HI4.out.drew.up hB5).touch hT6 hgm2).cell 4 | fail)
            (first | (go_at_call 24; refine (num_u R _).mono ?_; rintro e w5 ⟨rfl, hB5⟩; have HM5 := Lib.hid (HM4.out.drw.up hB5)) | (go_at_call 80; refine (set_v HM5.out hp d hdn 1 0 0 R).mono ?_; rintro e w6 ⟨rfl, hM6, hT6⟩))
          go_wp2_with fail
          go_ret
          unfold Went
          rw [HE.out]
          exact ⟨rfl, hM6, (HT4.out.drw.trans (Touch.of_below hB5)).trans hT6⟩
end Go.Proofs.YtpigkppnelnhiaaGreat
