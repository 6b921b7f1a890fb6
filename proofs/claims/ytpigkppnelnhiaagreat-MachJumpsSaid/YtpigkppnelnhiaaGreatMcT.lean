/- Package mach: Step. Written by gen_mct.py. -/
import Derived.Test.YtpigkppnelnhiaaGreatMcS
namespace Go.Proofs.YtpigkppnelnhiaaGreat
open Go.ChangeShapes Go.WideShapes Go.ChangeAt Go.RowKit
set_option linter.unusedVariables false
set_option linter.unusedSimpArgs false
set_option maxRecDepth 100000
theorem arr8_of {zs : Array Value} (h : zs.size = 8) : ∃ a b c d e f g i, zs = #[a, b, c, d, e, f, g, i] := by
  obtain ⟨l⟩ := zs
  match l, h with
  | [a, b, c, d, e, f, g, i], _ => exact ⟨a, b, c, d, e, f, g, i, rfl⟩
theorem Blk.eight8 {w : World} {b : Nat} {t : TypeId} {a0 a1 a2 a3 a4 a5 a6 a7 : Value} (h : Blk w b t #[a0, a1, a2, a3, a4, a5, a6, a7]) : (w.cell? ⟨b, 0, none⟩ = some a0 ∧ w.cell? ⟨b, 1, none⟩ = some a1 ∧ w.cell? ⟨b, 2, none⟩ = some a2 ∧ w.cell? ⟨b, 3, none⟩ = some a3 ∧ w.cell? ⟨b, 4, none⟩ = some a4 ∧
    w.cell? ⟨b, 5, none⟩ = some a5 ∧ w.cell? ⟨b, 6, none⟩ = some a6 ∧ w.cell? ⟨b, 7, none⟩ = some a7) ∧ w.frozen? ⟨b, 0, none⟩ = false ∧ w.frozen? ⟨b, 1, none⟩ = false ∧ w.frozen? ⟨b, 2, none⟩ = false ∧ w.frozen? ⟨b, 3, none⟩ = false ∧ w.frozen? ⟨b, 4, none⟩ = false ∧ w.frozen? ⟨b, 5, none⟩ = false ∧ w.frozen? ⟨b, 6, none⟩ = false ∧ w.frozen? ⟨b, 7, none⟩ = false :=
  ⟨h.eight, h.frozen 0, h.frozen 1, h.frozen 2, h.frozen 3, h.frozen 4, h.frozen 5, h.frozen 6, h.frozen 7⟩
theorem Blk.set8 {w : World} {g : Nat} {t : TypeId} {a0 b0 c0 d0 e0 f0 g0 h0 : Value} (h : Blk w g t #[a0, b0, c0, d0, e0, f0, g0, h0]) (a b c d e f k l : Value) : Blk ((((((((w.setCell ⟨g, 0, none⟩ a).setCell ⟨g, 1, none⟩ b).setCell ⟨g, 2, none⟩ c).setCell ⟨g, 3, none⟩ d).setCell ⟨g, 4, none⟩ e).setCell ⟨g, 5, none⟩ f).setCell ⟨g, 6, none⟩ k).setCell ⟨g, 7, none⟩ l) g t #[a, b, c, d, e, f, k, l] := by
  have h1 : Blk (w.setCell ⟨g, 0, none⟩ a) g t #[a, b0, c0, d0, e0, f0, g0, h0] := h.set_ 0 a
  have h2 : Blk ((w.setCell ⟨g, 0, none⟩ a).setCell ⟨g, 1, none⟩ b) g t #[a, b, c0, d0, e0, f0, g0, h0] := h1.set_ 1 b
  generalize ((w.setCell ⟨g, 0, none⟩ a).setCell ⟨g, 1, none⟩ b) = w2 at *
  have h3 : Blk (w2.setCell ⟨g, 2, none⟩ c) g t #[a, b, c, d0, e0, f0, g0, h0] := h2.set_ 2 c
  have h4 : Blk ((w2.setCell ⟨g, 2, none⟩ c).setCell ⟨g, 3, none⟩ d) g t #[a, b, c, d, e0, f0, g0, h0] := h3.set_ 3 d
  generalize ((w2.setCell ⟨g, 2, none⟩ c).setCell ⟨g, 3, none⟩ d) = w4 at *
  have h5 : Blk (w4.setCell ⟨g, 4, none⟩ e) g t #[a, b, c, d, e, f0, g0, h0] := h4.set_ 4 e
  have h6 : Blk ((w4.setCell ⟨g, 4, none⟩ e).setCell ⟨g, 5, none⟩ f) g t #[a, b, c, d, e, f, g0, h0] := h5.set_ 5 f
  generalize ((w4.setCell ⟨g, 4, none⟩ e).setCell ⟨g, 5, none⟩ f) = w6 at *
  have h7 : Blk (w6.setCell ⟨g, 6, none⟩ k) g t #[a, b, c, d, e, f, k, h0] := h6.set_ 6 k
  exact h7.set_ 7 l
theorem Touch.set8 {g : Nat} (w : World) (i0 i1 i2 i3 i4 i5 i6 i7 : Nat) (x0 x1 x2 x3 x4 x5 x6 x7 : Value) : Touch g w ((((((((w.setCell ⟨g, i0, none⟩ x0).setCell ⟨g, i1, none⟩ x1).setCell ⟨g, i2, none⟩ x2).setCell ⟨g, i3, none⟩ x3).setCell ⟨g, i4, none⟩ x4).setCell ⟨g, i5, none⟩ x5).setCell ⟨g, i6, none⟩ x6).setCell ⟨g, i7, none⟩ x7) :=
  (Touch.set4 _ _ _ _ _ _ _ _ _).trans (Touch.set4 _ _ _ _ _ _ _ _ _)
/-- blocks of other types than the machine's own stay -/
def KeepT (w w' : World) : Prop := ∀ (k : Nat) (t : TypeId) (cs : Array Value), Blk w k t cs → t ≠ 72 → t ≠ 5 → t ≠ 3 → Blk w' k t cs
theorem KeepT.refl (w : World) : KeepT w w := fun _ _ _ h _ _ _ => h
theorem KeepT.trans {a b c : World} (h : KeepT a b) (k : KeepT b c) : KeepT a c := fun i t cs hb h1 h2 h3 => k i t cs (h i t cs hb h1 h2 h3) h1 h2 h3
theorem KeepT.below {w w' : World} (h : Below w.heap.size w w') : KeepT w w' := fun _ _ _ hb _ _ _ => hb.up h
theorem KeepT.touch {w w' : World} {g n : Nat} {f : Nat → Value} (h : Touch g w w') (hf : FB w g 72 n f) : KeepT w w' := fun k t cs hb h1 _ _ => hb.touch h (Blk.ne_ hb hf h1)
/-- what a step leaves -/
def Stepped (base g : Nat) (P : Pg) (r : Int × St) (w : World) (e : Ending) (w' : World) : Prop := e = .returned (.int .i64 r.1) ∧ MAt w' base g P r.2 ∧ Below base w w' ∧ KeepT w w'
theorem Went.stepped {base g : Nat} {P : Pg} {S : St} {vc vk vg vn : Value} {r : Int × St} {w w' : World} {e : Ending} (h : Went base g P vc vk vg vn r w e w') (h0 : Mem w base g P S vc vk vg vn) : Stepped base g P r w e w' :=
  ⟨h.1, ⟨_, _, _, _, h.2.1⟩, h.2.2.below h.2.1.lo (by have := h0.fb.lt; have := h0.lo; omega), KeepT.touch h.2.2 h0.fb⟩
/-- what an instruction's method is asked for -/
def Does (P : Pg) (i : Ins) (r : St → Int × St) : Prop := ∀ (w : World) (base g : Nat) (S : St), MAt w base g P S → S.pc < P.code.length → Calls Tryz.prog (doF i.op) #[.pointer (some ⟨g, 0, none⟩), i.val] w (Stepped base g P (r S) w)

/-- what holds, whatever has come up -/
def StepR (w1 : World) (g pc b off n c : Nat) (op : Int) (nar reg : Bool) (size dst src io imm : Int) (u : Nat → Prop) (X : Tmp → Value) (w : World) : Prop :=
  Below w1.heap.size w1 w ∧
  (u 0 → X 8 = .pointer (some ⟨g, 0, none⟩)) ∧
  (u 1 → X 9 = .pointer (some ⟨g, 0, none⟩)) ∧
  (u 2 → X 10 = .pointer (some ⟨g, 420, none⟩)) ∧
  (u 3 → X 11 = .slice (some ⟨b, off, none⟩) n c) ∧
  (u 4 → X 12 = .pointer (some ⟨g, 0, none⟩)) ∧
  (u 5 → X 13 = .pointer (some ⟨g, 0, none⟩)) ∧
  (u 6 → X 14 = .pointer (some ⟨g, 467, none⟩)) ∧
  (u 7 → X 15 = .int .i64 (pc : Int)) ∧
  (u 8 → X 16 = .pointer (some ⟨b, off + pc * 8, none⟩)) ∧
  (u 9 → X 17 = .agg #[.int .i64 op, .bool nar, .bool reg, .int .i64 size, .int .i64 dst, .int .i64 src, .int .i64 io, .int .i64 imm]) ∧
  SlotM w1.heap.size 57 (u 10) (u 11) (X 3) w #[.int .i64 op, .bool nar, .bool reg, .int .i64 size, .int .i64 dst, .int .i64 src, .int .i64 io, .int .i64 imm]

set_option maxHeartbeats 8000000 in
theorem step_v {w : World} {base g : Nat} {P : Pg} {S : St} {vc vk vg vn : Value} (h : Mem w base g P S vc vk vg vn) (hd : S.done = false) (op : Int) (nar reg : Bool) (size dst src io imm : Int) (hi : P.code[S.pc]? = some ⟨op, nar, reg, size, dst, src, io, imm⟩) (r : St → Int × St) (hr : Does P ⟨op, nar, reg, size, dst, src, io, imm⟩ r)
    (hcf : ∀ a W, (callFunc (doF op) a).run Tryz.prog W = .ok (.enter (doF op) a) W) :
    Calls Tryz.prog 11 #[.pointer (some ⟨g, 0, none⟩)] w (Stepped base g P (r S) w) := by
  have hpl : S.pc < P.code.length := by
    rcases Nat.lt_or_ge S.pc P.code.length with h1 | h1
    · exact h1
    · rw [List.getElem?_eq_none h1] at hi; cases hi
  have hpl0 := hpl
  obtain ⟨A, c, hvk, hca⟩ := h.code.codeAt
  obtain ⟨b, off, rfl, hbl, hcc⟩ := hca (by omega)
  have HC := Lib.hid (hcc S.pc _ hi)
  obtain ⟨n, hn⟩ : ∃ n, n = P.code.length := ⟨_, rfl⟩
  rw [← hn] at hvk hpl
  have HK := Lib.hid hvk
  obtain ⟨pc, hpc⟩ : ∃ pc, S.pc = pc := ⟨_, rfl⟩
  have HPC := Lib.hid hpc
  rw [hpc] at HC hpl
  have hpn := hpl
  have hpn' : (pc : Int) < n := by omega
  have hdn := h.done
  rw [hd] at hdn
  have HPL := Lib.hid hpl0
  have HM1 := Lib.hid h
  have HR := Lib.hid (show ∀ (w : World) (base g : Nat) (S : St), MAt w base g P S → S.pc < P.code.length → Calls Tryz.prog (doF op) #[.pointer (some ⟨g, 0, none⟩), .agg #[.int .i64 op, .bool nar, .bool reg, .int .i64 size, .int .i64 dst, .int .i64 src, .int .i64 io, .int .i64 imm]] w (Stepped base g P (r S) w) from hr)
  have HN := Lib.hid hn
  have hgl := h.fb.lt
  have HLO := Lib.hid (show base ≤ w.heap.size by have := h.lo; omega)
  have HCF := Lib.hid hcf
  have HDO := Lib.hid (fun w => doer_v g op w)
  clear h hd hi hr hca hcc hvk hn hpc hpl hpl0 hcf
  go_enter Tryz.func11, Tryz.ntmps11
  go_upto_region 3 with (fail)

  refine Inv.wp_region_inv [3, 8, 9, 10, 11, 12, 13, 14, 15, 16, 17] (StepR w g pc b off n c op nar reg size dst src io imm) (by kernel_rfl) (by kernel_rfl) [0, 1, 2, 3, 4, 5, 6, 7, 8, 9, 10, 11] (by kernel_rfl) ?_ ?_ ?_
  · exact ⟨bdrw (Below.refl _ _), fun h => h.elim, fun h => h.elim, fun h => h.elim, fun h => h.elim, fun h => h.elim, fun h => h.elim, fun h => h.elim, fun h => h.elim, fun h => h.elim, fun h => h.elim, SlotM.no⟩
  · refine Inv.AllInv.cons ({ dst := some 8, op := Op.move (Operand.tmp 0), type := 31, pos := "mach.go:47", after := #[], guard := none }) rfl rfl [] (by kernel_rfl) ?_ ?_
    · intro Q2 u X wv hR hu hd K hK
      obtain ⟨q0, q1, q2, q3, q4, q5, q6, q7, q8, q9, q10, q11⟩ := hR
      refine ⟨?_⟩
      simp only [Inv.puts, Act.put, List.setIfInBounds_toArray, List.set_cons_zero, List.set_cons_succ] at hK
      simp only [Inv.puts, Act.put, List.setIfInBounds_toArray, List.set_cons_zero, List.set_cons_succ]
      go_simp
      refine hK.out (Inv.upd X 8 (.pointer (some ⟨g, 0, none⟩))) _ ?_
      exact ⟨q0, fun _ => rfl, fun h => q2 (h.resolve_left (by decide)), fun h => q3 (h.resolve_left (by decide)), fun h => q4 (h.resolve_left (by decide)), fun h => q5 (h.resolve_left (by decide)), fun h => q6 (h.resolve_left (by decide)), fun h => q7 (h.resolve_left (by decide)), fun h => q8 (h.resolve_left (by decide)), fun h => q9 (h.resolve_left (by decide)), fun h => q10 (h.resolve_left (by decide)), (q11.step (by decide) (by decide))⟩
    refine Inv.AllInv.cons ({ dst := some 9, op := Op.nilCheck (Operand.tmp 8), type := 0, pos := "mach.go:47", after := #[{ on := 0, ground := Ground.data }], guard := none }) rfl rfl [0] (by kernel_rfl) ?_ ?_
    · intro Q2 u X wv hR hu hd K hK
      obtain ⟨q0, q1, q2, q3, q4, q5, q6, q7, q8, q9, q10, q11⟩ := hR
      have e1 := q1 hd.1
      refine ⟨?_⟩
      simp only [Inv.puts, Act.put, List.setIfInBounds_toArray, List.set_cons_zero, List.set_cons_succ] at hK
      simp only [Inv.puts, Act.put, List.setIfInBounds_toArray, List.set_cons_zero, List.set_cons_succ, e1]
      go_simp
      refine hK.out (Inv.upd (Inv.upd X 8 (.pointer (some ⟨g, 0, none⟩))) 9 (.pointer (some ⟨g, 0, none⟩))) _ ?_
      rw [Inv.upd_same e1]
      exact ⟨q0, fun h => q1 (h.resolve_left (by decide)), fun _ => rfl, fun h => q3 (h.resolve_left (by decide)), fun h => q4 (h.resolve_left (by decide)), fun h => q5 (h.resolve_left (by decide)), fun h => q6 (h.resolve_left (by decide)), fun h => q7 (h.resolve_left (by decide)), fun h => q8 (h.resolve_left (by decide)), fun h => q9 (h.resolve_left (by decide)), fun h => q10 (h.resolve_left (by decide)), (q11.step (by decide) (by decide))⟩
    refine Inv.AllInv.cons ({ dst := some 10, op := Op.fieldAddr 72 (Operand.tmp 9) 1, type := 0, pos := "mach.go:47", after := #[{ on := 1, ground := Ground.data }], guard := none }) rfl rfl [1] (by kernel_rfl) ?_ ?_
    · intro Q2 u X wv hR hu hd K hK
      obtain ⟨q0, q1, q2, q3, q4, q5, q6, q7, q8, q9, q10, q11⟩ := hR
      have e2 := q2 hd.1
      refine ⟨?_⟩
      simp only [Inv.puts, Act.put, List.setIfInBounds_toArray, List.set_cons_zero, List.set_cons_succ] at hK
      simp only [Inv.puts, Act.put, List.setIfInBounds_toArray, List.set_cons_zero, List.set_cons_succ, e2]
      go_simp
      refine hK.out (Inv.upd (Inv.upd X 9 (.pointer (some ⟨g, 0, none⟩))) 10 (.pointer (some ⟨g, 420, none⟩))) _ ?_
      rw [Inv.upd_same e2]
      exact ⟨q0, fun h => q1 (h.resolve_left (by decide)), fun h => q2 (h.resolve_left (by decide)), fun _ => rfl, fun h => q4 (h.resolve_left (by decide)), fun h => q5 (h.resolve_left (by decide)), fun h => q6 (h.resolve_left (by decide)), fun h => q7 (h.resolve_left (by decide)), fun h => q8 (h.resolve_left (by decide)), fun h => q9 (h.resolve_left (by decide)), fun h => q10 (h.resolve_left (by decide)), (q11.step (by decide) (by decide))⟩
    refine Inv.AllInv.cons ({ dst := some 11, op := Op.load 24 (Operand.tmp 10), type := 24, pos := "mach.go:47", after := #[{ on := 2, ground := Ground.data }], guard := none }) rfl rfl [2] (by kernel_rfl) ?_ ?_
    · intro Q2 u X wv hR hu hd K hK
      obtain ⟨q0, q1, q2, q3, q4, q5, q6, q7, q8, q9, q10, q11⟩ := hR
      have e3 := q3 hd.1
      have c0 := (HM1.out.up q0).cK
      rw [HK.out] at c0
      refine ⟨?_⟩
      simp only [Inv.puts, Act.put, List.setIfInBounds_toArray, List.set_cons_zero, List.set_cons_succ] at hK
      simp only [Inv.puts, Act.put, List.setIfInBounds_toArray, List.set_cons_zero, List.set_cons_succ, e3]
      go_simp
      refine hK.out (Inv.upd (Inv.upd X 10 (.pointer (some ⟨g, 420, none⟩))) 11 (.slice (some ⟨b, off, none⟩) n c)) _ ?_
      rw [Inv.upd_same e3]
      exact ⟨q0, fun h => q1 (h.resolve_left (by decide)), fun h => q2 (h.resolve_left (by decide)), fun h => q3 (h.resolve_left (by decide)), fun _ => rfl, fun h => q5 (h.resolve_left (by decide)), fun h => q6 (h.resolve_left (by decide)), fun h => q7 (h.resolve_left (by decide)), fun h => q8 (h.resolve_left (by decide)), fun h => q9 (h.resolve_left (by decide)), fun h => q10 (h.resolve_left (by decide)), (q11.step (by decide) (by decide))⟩
    refine Inv.AllInv.cons ({ dst := some 12, op := Op.move (Operand.tmp 0), type := 31, pos := "mach.go:47", after := #[], guard := none }) rfl rfl [] (by kernel_rfl) ?_ ?_
    · intro Q2 u X wv hR hu hd K hK
      obtain ⟨q0, q1, q2, q3, q4, q5, q6, q7, q8, q9, q10, q11⟩ := hR
      refine ⟨?_⟩
      simp only [Inv.puts, Act.put, List.setIfInBounds_toArray, List.set_cons_zero, List.set_cons_succ] at hK
      simp only [Inv.puts, Act.put, List.setIfInBounds_toArray, List.set_cons_zero, List.set_cons_succ]
      go_simp
      refine hK.out (Inv.upd X 12 (.pointer (some ⟨g, 0, none⟩))) _ ?_
      exact ⟨q0, fun h => q1 (h.resolve_left (by decide)), fun h => q2 (h.resolve_left (by decide)), fun h => q3 (h.resolve_left (by decide)), fun h => q4 (h.resolve_left (by decide)), fun _ => rfl, fun h => q6 (h.resolve_left (by decide)), fun h => q7 (h.resolve_left (by decide)), fun h => q8 (h.resolve_left (by decide)), fun h => q9 (h.resolve_left (by decide)), fun h => q10 (h.resolve_left (by decide)), (q11.step (by decide) (by decide))⟩
    refine Inv.AllInv.cons ({ dst := some 13, op := Op.nilCheck (Operand.tmp 12), type := 0, pos := "mach.go:47", after := #[{ on := 4, ground := Ground.data }], guard := none }) rfl rfl [4] (by kernel_rfl) ?_ ?_
    · intro Q2 u X wv hR hu hd K hK
      obtain ⟨q0, q1, q2, q3, q4, q5, q6, q7, q8, q9, q10, q11⟩ := hR
      have e5 := q5 hd.1
      refine ⟨?_⟩
      simp only [Inv.puts, Act.put, List.setIfInBounds_toArray, List.set_cons_zero, List.set_cons_succ] at hK
      simp only [Inv.puts, Act.put, List.setIfInBounds_toArray, List.set_cons_zero, List.set_cons_succ, e5]
      go_simp
      refine hK.out (Inv.upd (Inv.upd X 12 (.pointer (some ⟨g, 0, none⟩))) 13 (.pointer (some ⟨g, 0, none⟩))) _ ?_
      rw [Inv.upd_same e5]
      exact ⟨q0, fun h => q1 (h.resolve_left (by decide)), fun h => q2 (h.resolve_left (by decide)), fun h => q3 (h.resolve_left (by decide)), fun h => q4 (h.resolve_left (by decide)), fun h => q5 (h.resolve_left (by decide)), fun _ => rfl, fun h => q7 (h.resolve_left (by decide)), fun h => q8 (h.resolve_left (by decide)), fun h => q9 (h.resolve_left (by decide)), fun h => q10 (h.resolve_left (by decide)), (q11.step (by decide) (by decide))⟩
    refine Inv.AllInv.cons ({ dst := some 14, op := Op.fieldAddr 72 (Operand.tmp 13) 5, type := 0, pos := "mach.go:47", after := #[{ on := 5, ground := Ground.data }], guard := none }) rfl rfl [5] (by kernel_rfl) ?_ ?_
    · intro Q2 u X wv hR hu hd K hK
      obtain ⟨q0, q1, q2, q3, q4, q5, q6, q7, q8, q9, q10, q11⟩ := hR
      have e6 := q6 hd.1
      refine ⟨?_⟩
      simp only [Inv.puts, Act.put, List.setIfInBounds_toArray, List.set_cons_zero, List.set_cons_succ] at hK
      simp only [Inv.puts, Act.put, List.setIfInBounds_toArray, List.set_cons_zero, List.set_cons_succ, e6]
      go_simp
      refine hK.out (Inv.upd (Inv.upd X 13 (.pointer (some ⟨g, 0, none⟩))) 14 (.pointer (some ⟨g, 467, none⟩))) _ ?_
      rw [Inv.upd_same e6]
      exact ⟨q0, fun h => q1 (h.resolve_left (by decide)), fun h => q2 (h.resolve_left (by decide)), fun h => q3 (h.resolve_left (by decide)), fun h => q4 (h.resolve_left (by decide)), fun h => q5 (h.resolve_left (by decide)), fun h => q6 (h.resolve_left (by decide)), fun _ => rfl, fun h => q8 (h.resolve_left (by decide)), fun h => q9 (h.resolve_left (by decide)), fun h => q10 (h.resolve_left (by decide)), (q11.step (by decide) (by decide))⟩
    refine Inv.AllInv.cons ({ dst := some 15, op := Op.load 3 (Operand.tmp 14), type := 3, pos := "mach.go:47", after := #[{ on := 6, ground := Ground.data }], guard := none }) rfl rfl [6] (by kernel_rfl) ?_ ?_
    · intro Q2 u X wv hR hu hd K hK
      obtain ⟨q0, q1, q2, q3, q4, q5, q6, q7, q8, q9, q10, q11⟩ := hR
      have e7 := q7 hd.1
      have c0 := (HM1.out.up q0).pc
      rw [HPC.out] at c0
      refine ⟨?_⟩
      simp only [Inv.puts, Act.put, List.setIfInBounds_toArray, List.set_cons_zero, List.set_cons_succ] at hK
      simp only [Inv.puts, Act.put, List.setIfInBounds_toArray, List.set_cons_zero, List.set_cons_succ, e7]
      go_simp
      refine hK.out (Inv.upd (Inv.upd X 14 (.pointer (some ⟨g, 467, none⟩))) 15 (.int .i64 (pc : Int))) _ ?_
      rw [Inv.upd_same e7]
      exact ⟨q0, fun h => q1 (h.resolve_left (by decide)), fun h => q2 (h.resolve_left (by decide)), fun h => q3 (h.resolve_left (by decide)), fun h => q4 (h.resolve_left (by decide)), fun h => q5 (h.resolve_left (by decide)), fun h => q6 (h.resolve_left (by decide)), fun h => q7 (h.resolve_left (by decide)), fun _ => rfl, fun h => q9 (h.resolve_left (by decide)), fun h => q10 (h.resolve_left (by decide)), (q11.step (by decide) (by decide))⟩
    refine Inv.AllInv.cons ({ dst := some 16, op := Op.indexAddr 24 (Operand.tmp 11) (Operand.tmp 15), type := 0, pos := "mach.go:47", after := #[{ on := 3, ground := Ground.data }, { on := 7, ground := Ground.data }], guard := none }) rfl rfl [3, 7] (by kernel_rfl) ?_ ?_
    · intro Q2 u X wv hR hu hd K hK
      obtain ⟨q0, q1, q2, q3, q4, q5, q6, q7, q8, q9, q10, q11⟩ := hR
      have e4 := q4 hd.1
      have e8 := q8 hd.2.1
      have hp8 := hpn
      have hp9 := hpn'
      refine ⟨?_⟩
      simp only [Inv.puts, Act.put, List.setIfInBounds_toArray, List.set_cons_zero, List.set_cons_succ] at hK
      simp only [Inv.puts, Act.put, List.setIfInBounds_toArray, List.set_cons_zero, List.set_cons_succ, e4, e8]
      go_simp
      refine hK.out (Inv.upd (Inv.upd (Inv.upd X 11 (.slice (some ⟨b, off, none⟩) n c)) 15 (.int .i64 (pc : Int))) 16 (.pointer (some ⟨b, off + pc * 8, none⟩))) _ ?_
      rw [Inv.upd_same e4, Inv.upd_same e8]
      exact ⟨q0, fun h => q1 (h.resolve_left (by decide)), fun h => q2 (h.resolve_left (by decide)), fun h => q3 (h.resolve_left (by decide)), fun h => q4 (h.resolve_left (by decide)), fun h => q5 (h.resolve_left (by decide)), fun h => q6 (h.resolve_left (by decide)), fun h => q7 (h.resolve_left (by decide)), fun h => q8 (h.resolve_left (by decide)), fun _ => rfl, fun h => q10 (h.resolve_left (by decide)), (q11.step (by decide) (by decide))⟩
    refine Inv.AllInv.cons ({ dst := some 17, op := Op.load 57 (Operand.tmp 16), type := 57, pos := "mach.go:47", after := #[{ on := 8, ground := Ground.data }], guard := none }) rfl rfl [8] (by kernel_rfl) ?_ ?_
    · intro Q2 u X wv hR hu hd K hK
      obtain ⟨q0, q1, q2, q3, q4, q5, q6, q7, q8, q9, q10, q11⟩ := hR
      have e9 := q9 hd.1
      obtain ⟨c0, c1, c2, c3, c4, c5, c6, c7⟩ := HC.out.below q0 hbl
      refine ⟨?_⟩
      simp only [Inv.puts, Act.put, List.setIfInBounds_toArray, List.set_cons_zero, List.set_cons_succ] at hK
      simp only [Inv.puts, Act.put, List.setIfInBounds_toArray, List.set_cons_zero, List.set_cons_succ, e9]
      go_simp
      refine hK.out (Inv.upd (Inv.upd X 16 (.pointer (some ⟨b, off + pc * 8, none⟩))) 17 (.agg #[.int .i64 op, .bool nar, .bool reg, .int .i64 size, .int .i64 dst, .int .i64 src, .int .i64 io, .int .i64 imm])) _ ?_
      rw [Inv.upd_same e9]
      exact ⟨q0, fun h => q1 (h.resolve_left (by decide)), fun h => q2 (h.resolve_left (by decide)), fun h => q3 (h.resolve_left (by decide)), fun h => q4 (h.resolve_left (by decide)), fun h => q5 (h.resolve_left (by decide)), fun h => q6 (h.resolve_left (by decide)), fun h => q7 (h.resolve_left (by decide)), fun h => q8 (h.resolve_left (by decide)), fun h => q9 (h.resolve_left (by decide)), fun _ => rfl, (q11.step (by decide) (by decide))⟩
    refine Inv.AllInv.cons ({ dst := some 3, op := Op.alloc 57, type := 0, pos := "mach.go:47", after := #[], guard := none }) rfl rfl [] (by kernel_rfl) ?_ ?_
    · intro Q2 u X wv hR hu hd K hK
      obtain ⟨q0, q1, q2, q3, q4, q5, q6, q7, q8, q9, q10, q11⟩ := hR
      refine ⟨?_⟩
      simp only [Inv.puts, Act.put, List.setIfInBounds_toArray, List.set_cons_zero, List.set_cons_succ] at hK
      simp only [Inv.puts, Act.put, List.setIfInBounds_toArray, List.set_cons_zero, List.set_cons_succ]
      go_simp
      refine hK.out (Inv.upd X 3 (.pointer (some ⟨wv.heap.size, 0, none⟩))) _ ?_
      exact ⟨q0.alloc q0.size _, fun h => q1 (h.resolve_left (by decide)), fun h => q2 (h.resolve_left (by decide)), fun h => q3 (h.resolve_left (by decide)), fun h => q4 (h.resolve_left (by decide)), fun h => q5 (h.resolve_left (by decide)), fun h => q6 (h.resolve_left (by decide)), fun h => q7 (h.resolve_left (by decide)), fun h => q8 (h.resolve_left (by decide)), fun h => q9 (h.resolve_left (by decide)), fun h => q10 (h.resolve_left (by decide)), q11.made hu (by decide) q0.size rfl⟩
    refine Inv.AllInv.cons ({ dst := none, op := Op.store 57 (Operand.tmp 3) (Operand.tmp 17), type := 0, pos := "mach.go:47", after := #[{ on := 10, ground := Ground.data }, { on := 9, ground := Ground.data }, { on := 0, ground := Ground.phase }, { on := 1, ground := Ground.phase }, { on := 2, ground := Ground.phase }, { on := 3, ground := Ground.phase }, { on := 4, ground := Ground.phase }, { on := 5, ground := Ground.phase }, { on := 6, ground := Ground.phase }, { on := 7, ground := Ground.phase }, { on := 8, ground := Ground.phase }, { on := 9, ground := Ground.phase }, { on := 10, ground := Ground.phase }], guard := none }) rfl rfl [10, 9, 0, 1, 2, 3, 4, 5, 6, 7, 8, 9, 10] (by kernel_rfl) ?_ ?_
    · intro Q2 u X wv hR hu hd K hK
      obtain ⟨q0, q1, q2, q3, q4, q5, q6, q7, q8, q9, q10, q11⟩ := hR
      have e10 := q10 hd.2.1
      have ha := hd.1
      obtain ⟨g, zs, eX, hg, hz, hBz, -⟩ := q11.2 ha
      obtain ⟨z0, z1, z2, z3, z4, z5, z6, z7, rfl⟩ := arr8_of hz
      obtain ⟨⟨b0, b1, b2, b3, b4, b5, b6, b7⟩, f0, f1, f2, f3, f4, f5, f6, f7⟩ := hBz.eight8
      have hBx := hBz.set8 (.int .i64 op) (.bool nar) (.bool reg) (.int .i64 size) (.int .i64 dst) (.int .i64 src) (.int .i64 io) (.int .i64 imm)
      have hT := Touch.set8 (g := g) wv 0 1 2 3 4 5 6 7 (.int .i64 op) (.bool nar) (.bool reg) (.int .i64 size) (.int .i64 dst) (.int .i64 src) (.int .i64 io) (.int .i64 imm)
      refine ⟨?_⟩
      simp only [Inv.puts, Act.put, List.setIfInBounds_toArray, List.set_cons_zero, List.set_cons_succ] at hK
      simp only [Inv.puts, Act.put, List.setIfInBounds_toArray, List.set_cons_zero, List.set_cons_succ, e10, eX]
      go_simp
      refine hK.out (Inv.upd (Inv.upd X 17 (.agg #[.int .i64 op, .bool nar, .bool reg, .int .i64 size, .int .i64 dst, .int .i64 src, .int .i64 io, .int .i64 imm])) 3 (.pointer (some ⟨g, 0, none⟩))) _ ?_
      rw [Inv.upd_same e10, Inv.upd_same eX]
      exact ⟨below_touch q0 hT hg q0.size, fun h => q1 (h.resolve_left (by decide)), fun h => q2 (h.resolve_left (by decide)), fun h => q3 (h.resolve_left (by decide)), fun h => q4 (h.resolve_left (by decide)), fun h => q5 (h.resolve_left (by decide)), fun h => q6 (h.resolve_left (by decide)), fun h => q7 (h.resolve_left (by decide)), fun h => q8 (h.resolve_left (by decide)), fun h => q9 (h.resolve_left (by decide)), fun h => q10 (h.resolve_left (by decide)), by rw [show _ = _ from eX]; exact SlotM.stored hg ha hBx⟩
    exact Inv.AllInv.nil
  · intro u X wv hd hR
    obtain ⟨q0, q1, q2, q3, q4, q5, q6, q7, q8, q9, q10, q11⟩ := hR
    obtain ⟨u0, u1, u2, u3, u4, u5, u6, u7, u8, u9, u10, u11, -⟩ := hd
    obtain ⟨p0, ep0, hp0, hP0⟩ := q11.full u11
    simp only [Inv.puts, Act.put, List.setIfInBounds_toArray, List.set_cons_zero, List.set_cons_succ, q1 u0, q2 u1, q3 u2, q4 u3, q5 u4, q6 u5, q7 u6, q8 u7, q9 u8, q10 u9, ep0]
    have HQ0 := Lib.hid q0
    clear q0 q1 q2 q3 q4 q5 q6 q7 q8 q9 q10 q11
    clear ep0 u0 u1 u2 u3 u4 u5 u6 u7 u8 u9 u10 u11
    have hM2 := HM1.out.up HQ0.out
    have HB2 := Lib.hid HQ0.out
    obtain ⟨c0, c1, c2, c3, c4, c5, c6, c7⟩ := hP0.eight
    have HM2 := Lib.hid hM2.drw
    clear HQ0 HM1 HC HK hP0 hM2 hp0 hbl hdn
    generalize doF op = f at *
    go_wp2_with fail
    refine wp_region_still_tail 5 (by kernel_rfl) (by kernel_rfl) ?_
    simp only [List.take_succ_cons, List.take_zero, List.drop_succ_cons, List.drop_zero]
    iterate 3 still_step
    still_call ((HDO.out _).mono fun _ _ ⟨h1, h2⟩ => ⟨h1, h2.symm⟩)
    iterate 1 still_step
    refine wpStill_nil ?_
    have hcf := HCF.out
    go_wp2_with fail
    refine (HR.out _ base g S ⟨_, _, _, _, HM2.out⟩ HPL.out).mono ?_
    rintro e w9 ⟨rfl, hM9, hB9, hK9⟩
    go_wp2_with fail
    go_ret
    exact ⟨rfl, hM9, ((bdrw HB2.out).mono HLO.out).trans hB9, (KeepT.below (bdrw HB2.out)).trans hK9⟩
end Go.Proofs.YtpigkppnelnhiaaGreat
