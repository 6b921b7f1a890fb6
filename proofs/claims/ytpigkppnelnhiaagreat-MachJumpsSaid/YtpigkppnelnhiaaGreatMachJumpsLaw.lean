/- MachJumps: the walk, the law's 'nowhere' given. Written by gen_mcjump.py. -/
import Derived.Test.YtpigkppnelnhiaaGreatMcR4
import Derived.Test.YtpigkppnelnhiaaGreatInv
namespace Go.Proofs.YtpigkppnelnhiaaGreat
open Go.ChangeShapes Go.WideShapes Go.ChangeAt Go.RowKit
open Cod Bits
set_option linter.unusedVariables false
set_option linter.unusedSimpArgs false
set_option maxRecDepth 100000
theorem and_1j (x : Int) : bits BinOp.and IntKind.i64 x 1 = x % 2 := by
  show IntKind.i64.wrap (((BitVec.ofInt 64 x &&& BitVec.ofInt 64 1).toNat : Nat) : Int) = x % 2
  have hb : (BitVec.ofInt 64 1).toNat = 2 ^ 1 - 1 := by decide
  rw [BitVec.toNat_and, hb, Nat.and_two_pow_sub_one_eq_mod, BitVec.toNat_ofInt]
  have e2 : (((x % ((2 ^ 64 : Nat) : Int)).toNat % 2 ^ 1 : Nat) : Int) = x % 2 := by
    rw [Int.natCast_emod, Int.toNat_of_nonneg (Int.emod_nonneg _ (by decide))]
    omega
  rw [e2]
  exact IntWalk.i64_in _ (by omega)
def JuSt (w : World) (op : Int) (nar : Bool) (p y : Value) (wx : World) : Prop := ∃ (g : Nat) (yy iop : Int) (inar ireg : Bool) (isz idst isrc ioff iimm : Int), p = .pointer (some ⟨g, 0, none⟩) ∧ y = .int .i64 yy ∧ JI op nar yy ⟨iop, inar, ireg, isz, idst, isrc, ioff, iimm⟩ ∧ Blk wx g 57 #[.int .i64 iop, .bool inar, .bool ireg, .int .i64 isz, .int .i64 idst, .int .i64 isrc, .int .i64 ioff, .int .i64 iimm] ∧ Below w.heap.size w wx
/-- what is asked of 'nowhere' -/
def NowhereYes : Prop := ∀ (w : World) (op : Int) (nar : Bool) (a yy iop : Int) (inar ireg : Bool) (isz idst isrc ioff iimm : Int), 27 ≤ op ∧ op ≤ 37 → JI op nar yy ⟨iop, inar, ireg, isz, idst, isrc, ioff, iimm⟩ →
  Calls Tryz.prog 17 #[.agg #[.int .i64 iop, .bool inar, .bool ireg, .int .i64 isz, .int .i64 idst, .int .i64 isrc, .int .i64 ioff, .int .i64 iimm], .int .i64 a, .int .i64 yy, .bool (holdsM op nar a yy)] w fun e w' => e = .returned (.bool true) ∧ Below w.heap.size w w'
/-- what holds, whatever has come up -/
def JumpR (w1 : World) (a yy R : Int) (iop : Int) (inar ireg : Bool) (isz idst isrc ioff iimm : Int) (u : Nat → Prop) (X : Tmp → Value) (w : World) : Prop :=
  Below w1.heap.size w1 w ∧
  (u 0 → X 38 = .int .i64 a) ∧
  (u 1 → X 39 = .agg #[.int .i64 20, .bool false, .bool false, .int .i64 0, .int .i64 3, .int .i64 0, .int .i64 0, .int .i64 a]) ∧
  (u 2 → X 40 = .int .i64 yy) ∧
  (u 3 → X 41 = .agg #[.int .i64 20, .bool false, .bool false, .int .i64 0, .int .i64 4, .int .i64 0, .int .i64 0, .int .i64 yy]) ∧
  (u 4 → X 42 = .agg #[.int .i64 15, .bool false, .bool false, .int .i64 0, .int .i64 0, .int .i64 0, .int .i64 0, .int .i64 1]) ∧
  (u 5 → X 43 = .agg #[.int .i64 iop, .bool inar, .bool ireg, .int .i64 isz, .int .i64 idst, .int .i64 isrc, .int .i64 ioff, .int .i64 iimm]) ∧
  (u 6 → X 44 = .agg #[.int .i64 20, .bool false, .bool false, .int .i64 0, .int .i64 0, .int .i64 0, .int .i64 0, .int .i64 2]) ∧
  (u 7 → X 45 = .agg #[.int .i64 15, .bool false, .bool false, .int .i64 0, .int .i64 5, .int .i64 0, .int .i64 0, .int .i64 9]) ∧
  (u 8 → X 46 = .agg #[.int .i64 39, .bool false, .bool false, .int .i64 0, .int .i64 0, .int .i64 0, .int .i64 0, .int .i64 0]) ∧
  (u 9 → ∃ b, X 47 = .slice (some ⟨b, 0, none⟩) 7 7 ∧ Blk w b 57 #[.int .i64 20, .bool false, .bool false, .int .i64 0, .int .i64 3, .int .i64 0, .int .i64 0, .int .i64 a, .int .i64 20, .bool false, .bool false, .int .i64 0, .int .i64 4, .int .i64 0, .int .i64 0, .int .i64 yy, .int .i64 15, .bool false, .bool false, .int .i64 0, .int .i64 0, .int .i64 0, .int .i64 0, .int .i64 1, .int .i64 iop, .bool inar, .bool ireg, .int .i64 isz, .int .i64 idst, .int .i64 isrc, .int .i64 ioff, .int .i64 iimm, .int .i64 20, .bool false, .bool false, .int .i64 0, .int .i64 0, .int .i64 0, .int .i64 0, .int .i64 2, .int .i64 15, .bool false, .bool false, .int .i64 0, .int .i64 5, .int .i64 0, .int .i64 0, .int .i64 9, .int .i64 39, .bool false, .bool false, .int .i64 0, .int .i64 0, .int .i64 0, .int .i64 0, .int .i64 0]) ∧
  (u 10 → ∃ A1 n1 c1 A2 n2 c2, X 48 = .tuple #[.agg #[.int .i64 R, .slice A1 n1 c1, .slice none 0 0, .slice A2 n2 c2], .int .i64 0]) ∧
  (u 11 → ∃ A1 n1 c1 A2 n2 c2, X 37 = .tuple #[.agg #[.int .i64 R, .slice A1 n1 c1, .slice none 0 0, .slice A2 n2 c2], .int .i64 0]) ∧
  (u 12 → ∃ A1 n1 c1 A2 n2 c2, X 49 = .agg #[.int .i64 R, .slice A1 n1 c1, .slice none 0 0, .slice A2 n2 c2]) ∧
  (u 13 → X 50 = .int .i64 0) ∧
  (u 16 → X 10 = .int .i64 0) ∧
  SlotP w1.heap.size 39 (u 14) (u 15) (X 9) w 4 (fun zs => ∃ A1 n1 c1 A2 n2 c2, zs = #[.int .i64 R, .slice A1 n1 c1, .slice none 0 0, .slice A2 n2 c2])
set_option maxHeartbeats 3000000 in
theorem machJumps_walk (hNW : NowhereYes) (w : World) (a : Int) (ra : -9223372036854775808 ≤ a ∧ a ≤ 9223372036854775807) (b : Int) (rb : -9223372036854775808 ≤ b ∧ b ≤ 9223372036854775807) :
    Calls Tryz.prog 4 #[.int .i64 a, .int .i64 b] w fun e w' => e = .returned (.bool true) ∧ Below w.heap.size w w' := by
  clear ra rb
  have HNW := Lib.hid hNW
  clear hNW
  go_enter Tryz.func4, Tryz.ntmps4
  go_wp2_with fail
  go_loopw [5] (fun o wr => ∃ j : Nat, 27 ≤ j ∧ j ≤ 38 ∧ o = .int .i64 j ∧ Below w.heap.size w wr) (fun o _ => (38 - intOf o).toNat)
  case atStart => exact ⟨27, by omega, by omega, rfl, Below.refl _ _⟩
  case round =>
    obtain ⟨j, hj1, hj2, rfl, hB⟩ := hrel
    by_cases hlt : j < 38
    · have g1 : (j : Int) ≤ 37 := by omega
      go_wp2_with fail
      go_loopw [6] (fun o wr => ∃ k : Nat, k ≤ 4 ∧ o = .int .i64 k ∧ Below w.heap.size w wr) (fun o _ => (4 - intOf o).toNat)
      case atStart => exact ⟨0, by omega, rfl, hB⟩
      case round =>
        clear hB
        obtain ⟨k, hk, rfl, hB⟩ := hrel
        by_cases hlk : k < 4
        · have hand := and_1j k
          obtain ⟨nar, hnar⟩ : ∃ nar, ((k : Int) % 2 == 1) = nar := ⟨_, rfl⟩
          go_upto_region 9 with (fail)
          have hI1 := Blk.new wr 57 #[.int .i64 j, .bool nar, .bool true, .int .i64 0, .int .i64 3, .int .i64 4, .int .i64 3, .int .i64 0]
          have hB1 := hB.alloc hB.size (.cells #[.int .i64 j, .bool nar, .bool true, .int .i64 0, .int .i64 3, .int .i64 4, .int .i64 3, .int .i64 0] 57)
          have hp := hB.size
          generalize (wr.alloc (.cells #[.int .i64 j, .bool nar, .bool true, .int .i64 0, .int .i64 3, .int .i64 4, .int .i64 3, .int .i64 0] 57)) = w1 at *
          generalize wr.heap.size = p at *
          have HB1 := Lib.hid hB1
          have HI1 := Lib.hid hI1
          have HP := Lib.hid hp
          have HAND := Lib.hid hand
          have HNAR := Lib.hid hnar
          clear hB hB1 hI1 hp hand hnar
          go_upto_if 27 with (fail)
          go_cut [7, 8] (fun x y wx => JuSt w j nar x y wx)
          case first =>
            by_cases hk2 : k < 2
            · have hk3 : (k : Int) < 2 := by omega
              go_wp2_with fail
              go_meet
              case rel => exact ⟨p, b, j, nar, true, 0, 3, 4, 3, 0, rfl, rfl, .inl rfl, HI1.out, HB1.out⟩
            · have hk3 : 2 ≤ (k : Int) := by omega
              have hand := HAND.out
              have hnar := HNAR.out
              obtain ⟨⟨c0, c1, c2, c3, c4, c5, c6, c7⟩, f0, f1, f2, f3, f4, f5, f6, f7⟩ := HI1.out.eight8
              have HY1 := Lib.hid (show -2147483648 ≤ wrap64 (wrap32 b) ∧ wrap64 (wrap32 b) ≤ 2147483647 by unfold wrap64 wrap32; omega)
              have HI2 := Lib.hid (fun yy => HI1.out.set8 (.int .i64 j) (.bool nar) (.bool false) (.int .i64 0) (.int .i64 3) (.int .i64 0) (.int .i64 3) (.int .i64 yy))
              have HT := Lib.hid (fun yy => Touch.set8 (g := p) w1 0 1 2 3 4 5 6 7 (.int .i64 j) (.bool nar) (.bool false) (.int .i64 0) (.int .i64 3) (.int .i64 0) (.int .i64 3) (.int .i64 yy))
              go_wp2_with fail
              go_meet
              case rel => exact ⟨p, wrap64 (wrap32 b), j, nar, false, 0, 3, 0, 3, wrap64 (wrap32 b), rfl, rfl, .inr ⟨rfl, HY1.out⟩, HI2.out _, HB1.out.trans ((HT.out _).below HP.out HB1.out.size)⟩
          case rest =>
            clear HI1 HB1 HP
            clear w1 p
            obtain ⟨g, yy, iop, inar, ireg, isz, idst, isrc, ioff, iimm, rfl, rfl, hji, hI, hB⟩ := hcut
            have HJ := Lib.hid (show 27 ≤ (j : Int) ∧ (j : Int) ≤ 37 by omega)
            have HJI := Lib.hid hji
            have HRUN := Lib.hid (fun w' bb c hC => runs_ju w' ⟨bb, 0, none⟩ c a yy j nar ⟨iop, inar, ireg, isz, idst, isrc, ioff, iimm⟩ HJI.out HJ.out hC)
            have HR := Lib.hid (show juR j nar a yy = if holdsM j nar a yy = true then 1 else 2 from rfl)
            generalize juR j nar a yy = R at *
            have HI := Lib.hid hI
            have HB1 := Lib.hid hB
            clear hji hI hB
            go_upto_region 12 with (fail)
            generalize wc = w1 at *
            refine Inv.wp_region_inv [9, 10, 37, 38, 39, 40, 41, 42, 43, 44, 45, 46, 47, 48, 49, 50] (JumpR w1 a yy R iop inar ireg isz idst isrc ioff iimm) (by kernel_rfl) (by kernel_rfl) [0, 1, 2, 3, 4, 5, 6, 7, 8, 9, 10, 11, 12, 13, 14, 15, 16] (by kernel_rfl) ?_ ?_ ?_
            · exact ⟨bdrw (Below.refl _ _), fun h => h.elim, fun h => h.elim, fun h => h.elim, fun h => h.elim, fun h => h.elim, fun h => h.elim, fun h => h.elim, fun h => h.elim, fun h => h.elim, fun h => h.elim, fun h => h.elim, fun h => h.elim, fun h => h.elim, fun h => h.elim, fun h => h.elim, SlotP.no⟩
            · refine Inv.AllInv.cons ({ dst := some 38, op := Op.move (Operand.tmp 0), type := 3, pos := "outright.go:213", after := #[], guard := none }) rfl rfl [] (by kernel_rfl) ?_ ?_
              · intro Q2 u X wv hR hu hd K hK
                obtain ⟨q0, q1, q2, q3, q4, q5, q6, q7, q8, q9, q10, q11, q12, q13, q14, q15, q16⟩ := hR
                refine ⟨?_⟩
                simp only [Inv.puts, Act.put, List.setIfInBounds_toArray, List.set_cons_zero, List.set_cons_succ] at hK
                simp only [Inv.puts, Act.put, List.setIfInBounds_toArray, List.set_cons_zero, List.set_cons_succ]
                go_simp
                refine hK.out (Inv.upd X 38 (.int .i64 a)) _ ?_
                exact ⟨q0, fun _ => rfl, fun h => q2 (h.resolve_left (by decide)), fun h => q3 (h.resolve_left (by decide)), fun h => q4 (h.resolve_left (by decide)), fun h => q5 (h.resolve_left (by decide)), fun h => q6 (h.resolve_left (by decide)), fun h => q7 (h.resolve_left (by decide)), fun h => q8 (h.resolve_left (by decide)), fun h => q9 (h.resolve_left (by decide)), fun h => by obtain ⟨b, e1, e2⟩ := q10 (h.resolve_left (by decide)); exact ⟨b, e1, e2⟩, fun h => q11 (h.resolve_left (by decide)), fun h => q12 (h.resolve_left (by decide)), fun h => q13 (h.resolve_left (by decide)), fun h => q14 (h.resolve_left (by decide)), fun h => q15 (h.resolve_left (by decide)), (q16.step (by decide) (by decide))⟩
              refine Inv.AllInv.cons ({ dst := some 39, op := Op.call { callee := Callee.value (Operand.func 15), args := #[Operand.const (Value.int IntKind.i64 3), Operand.tmp 38], argTypes := #[3, 3] }, type := 57, pos := "outright.go:213", after := #[{ on := 0, ground := Ground.data }], guard := none }) rfl rfl [0] (by kernel_rfl) ?_ ?_
              · intro Q2 u X wv hR hu hd K hK
                obtain ⟨q0, q1, q2, q3, q4, q5, q6, q7, q8, q9, q10, q11, q12, q13, q14, q15, q16⟩ := hR
                have e1 := q1 hd.1
                refine ⟨?_⟩
                simp only [Inv.puts, Act.put, List.setIfInBounds_toArray, List.set_cons_zero, List.set_cons_succ] at hK
                simp only [Inv.puts, Act.put, List.setIfInBounds_toArray, List.set_cons_zero, List.set_cons_succ, e1]
                go_simp
                go_at_call 15
                refine (wide_v _ 3 a).mono ?_
                rintro e w2 ⟨rfl, hB⟩
                refine hK.out (Inv.upd (Inv.upd X 38 (.int .i64 a)) 39 (.agg #[.int .i64 20, .bool false, .bool false, .int .i64 0, .int .i64 3, .int .i64 0, .int .i64 0, .int .i64 a])) _ ?_
                rw [Inv.upd_same e1]
                exact ⟨q0.trans (hB.mono q0.size), fun h => q1 (h.resolve_left (by decide)), fun _ => rfl, fun h => q3 (h.resolve_left (by decide)), fun h => q4 (h.resolve_left (by decide)), fun h => q5 (h.resolve_left (by decide)), fun h => q6 (h.resolve_left (by decide)), fun h => q7 (h.resolve_left (by decide)), fun h => q8 (h.resolve_left (by decide)), fun h => q9 (h.resolve_left (by decide)), fun h => by obtain ⟨b, e1, e2⟩ := q10 (h.resolve_left (by decide)); exact ⟨b, e1, e2.up hB⟩, fun h => q11 (h.resolve_left (by decide)), fun h => q12 (h.resolve_left (by decide)), fun h => q13 (h.resolve_left (by decide)), fun h => q14 (h.resolve_left (by decide)), fun h => q15 (h.resolve_left (by decide)), (q16.step (by decide) (by decide)).up hB⟩
              refine Inv.AllInv.cons ({ dst := some 40, op := Op.move (Operand.tmp 8), type := 3, pos := "outright.go:213", after := #[], guard := none }) rfl rfl [] (by kernel_rfl) ?_ ?_
              · intro Q2 u X wv hR hu hd K hK
                obtain ⟨q0, q1, q2, q3, q4, q5, q6, q7, q8, q9, q10, q11, q12, q13, q14, q15, q16⟩ := hR
                refine ⟨?_⟩
                simp only [Inv.puts, Act.put, List.setIfInBounds_toArray, List.set_cons_zero, List.set_cons_succ] at hK
                simp only [Inv.puts, Act.put, List.setIfInBounds_toArray, List.set_cons_zero, List.set_cons_succ]
                go_simp
                refine hK.out (Inv.upd X 40 (.int .i64 yy)) _ ?_
                exact ⟨q0, fun h => q1 (h.resolve_left (by decide)), fun h => q2 (h.resolve_left (by decide)), fun _ => rfl, fun h => q4 (h.resolve_left (by decide)), fun h => q5 (h.resolve_left (by decide)), fun h => q6 (h.resolve_left (by decide)), fun h => q7 (h.resolve_left (by decide)), fun h => q8 (h.resolve_left (by decide)), fun h => q9 (h.resolve_left (by decide)), fun h => by obtain ⟨b, e1, e2⟩ := q10 (h.resolve_left (by decide)); exact ⟨b, e1, e2⟩, fun h => q11 (h.resolve_left (by decide)), fun h => q12 (h.resolve_left (by decide)), fun h => q13 (h.resolve_left (by decide)), fun h => q14 (h.resolve_left (by decide)), fun h => q15 (h.resolve_left (by decide)), (q16.step (by decide) (by decide))⟩
              refine Inv.AllInv.cons ({ dst := some 41, op := Op.call { callee := Callee.value (Operand.func 15), args := #[Operand.const (Value.int IntKind.i64 4), Operand.tmp 40], argTypes := #[3, 3] }, type := 57, pos := "outright.go:213", after := #[{ on := 2, ground := Ground.data }, { on := 1, ground := Ground.chain }], guard := none }) rfl rfl [2, 1] (by kernel_rfl) ?_ ?_
              · intro Q2 u X wv hR hu hd K hK
                obtain ⟨q0, q1, q2, q3, q4, q5, q6, q7, q8, q9, q10, q11, q12, q13, q14, q15, q16⟩ := hR
                have e3 := q3 hd.1
                refine ⟨?_⟩
                simp only [Inv.puts, Act.put, List.setIfInBounds_toArray, List.set_cons_zero, List.set_cons_succ] at hK
                simp only [Inv.puts, Act.put, List.setIfInBounds_toArray, List.set_cons_zero, List.set_cons_succ, e3]
                go_simp
                go_at_call 15
                refine (wide_v _ 4 yy).mono ?_
                rintro e w2 ⟨rfl, hB⟩
                refine hK.out (Inv.upd (Inv.upd X 40 (.int .i64 yy)) 41 (.agg #[.int .i64 20, .bool false, .bool false, .int .i64 0, .int .i64 4, .int .i64 0, .int .i64 0, .int .i64 yy])) _ ?_
                rw [Inv.upd_same e3]
                exact ⟨q0.trans (hB.mono q0.size), fun h => q1 (h.resolve_left (by decide)), fun h => q2 (h.resolve_left (by decide)), fun h => q3 (h.resolve_left (by decide)), fun _ => rfl, fun h => q5 (h.resolve_left (by decide)), fun h => q6 (h.resolve_left (by decide)), fun h => q7 (h.resolve_left (by decide)), fun h => q8 (h.resolve_left (by decide)), fun h => q9 (h.resolve_left (by decide)), fun h => by obtain ⟨b, e1, e2⟩ := q10 (h.resolve_left (by decide)); exact ⟨b, e1, e2.up hB⟩, fun h => q11 (h.resolve_left (by decide)), fun h => q12 (h.resolve_left (by decide)), fun h => q13 (h.resolve_left (by decide)), fun h => q14 (h.resolve_left (by decide)), fun h => q15 (h.resolve_left (by decide)), (q16.step (by decide) (by decide)).up hB⟩
              refine Inv.AllInv.cons ({ dst := some 42, op := Op.build 57 #[(0, Operand.const (Value.int IntKind.i64 15)), (4, Operand.const (Value.int IntKind.i64 0)), (7, Operand.const (Value.int IntKind.i64 1))], type := 57, pos := "outright.go:213", after := #[], guard := none }) rfl rfl [] (by kernel_rfl) ?_ ?_
              · intro Q2 u X wv hR hu hd K hK
                obtain ⟨q0, q1, q2, q3, q4, q5, q6, q7, q8, q9, q10, q11, q12, q13, q14, q15, q16⟩ := hR
                refine ⟨?_⟩
                simp only [Inv.puts, Act.put, List.setIfInBounds_toArray, List.set_cons_zero, List.set_cons_succ] at hK
                simp only [Inv.puts, Act.put, List.setIfInBounds_toArray, List.set_cons_zero, List.set_cons_succ]
                go_simp
                refine hK.out (Inv.upd X 42 (.agg #[.int .i64 15, .bool false, .bool false, .int .i64 0, .int .i64 0, .int .i64 0, .int .i64 0, .int .i64 1])) _ ?_
                exact ⟨q0, fun h => q1 (h.resolve_left (by decide)), fun h => q2 (h.resolve_left (by decide)), fun h => q3 (h.resolve_left (by decide)), fun h => q4 (h.resolve_left (by decide)), fun _ => rfl, fun h => q6 (h.resolve_left (by decide)), fun h => q7 (h.resolve_left (by decide)), fun h => q8 (h.resolve_left (by decide)), fun h => q9 (h.resolve_left (by decide)), fun h => by obtain ⟨b, e1, e2⟩ := q10 (h.resolve_left (by decide)); exact ⟨b, e1, e2⟩, fun h => q11 (h.resolve_left (by decide)), fun h => q12 (h.resolve_left (by decide)), fun h => q13 (h.resolve_left (by decide)), fun h => q14 (h.resolve_left (by decide)), fun h => q15 (h.resolve_left (by decide)), (q16.step (by decide) (by decide))⟩
              refine Inv.AllInv.cons ({ dst := some 43, op := Op.load 57 (Operand.tmp 7), type := 57, pos := "outright.go:213", after := #[], guard := none }) rfl rfl [] (by kernel_rfl) ?_ ?_
              · intro Q2 u X wv hR hu hd K hK
                obtain ⟨q0, q1, q2, q3, q4, q5, q6, q7, q8, q9, q10, q11, q12, q13, q14, q15, q16⟩ := hR
                obtain ⟨c0, c1, c2, c3, c4, c5, c6, c7⟩ := (HI.out.up q0).eight
                refine ⟨?_⟩
                simp only [Inv.puts, Act.put, List.setIfInBounds_toArray, List.set_cons_zero, List.set_cons_succ] at hK
                simp only [Inv.puts, Act.put, List.setIfInBounds_toArray, List.set_cons_zero, List.set_cons_succ]
                go_simp
                refine hK.out (Inv.upd X 43 (.agg #[.int .i64 iop, .bool inar, .bool ireg, .int .i64 isz, .int .i64 idst, .int .i64 isrc, .int .i64 ioff, .int .i64 iimm])) _ ?_
                exact ⟨q0, fun h => q1 (h.resolve_left (by decide)), fun h => q2 (h.resolve_left (by decide)), fun h => q3 (h.resolve_left (by decide)), fun h => q4 (h.resolve_left (by decide)), fun h => q5 (h.resolve_left (by decide)), fun _ => rfl, fun h => q7 (h.resolve_left (by decide)), fun h => q8 (h.resolve_left (by decide)), fun h => q9 (h.resolve_left (by decide)), fun h => by obtain ⟨b, e1, e2⟩ := q10 (h.resolve_left (by decide)); exact ⟨b, e1, e2⟩, fun h => q11 (h.resolve_left (by decide)), fun h => q12 (h.resolve_left (by decide)), fun h => q13 (h.resolve_left (by decide)), fun h => q14 (h.resolve_left (by decide)), fun h => q15 (h.resolve_left (by decide)), (q16.step (by decide) (by decide))⟩
              refine Inv.AllInv.cons ({ dst := some 44, op := Op.call { callee := Callee.value (Operand.func 15), args := #[Operand.const (Value.int IntKind.i64 0), Operand.const (Value.int IntKind.i64 2)], argTypes := #[3, 3] }, type := 57, pos := "outright.go:213", after := #[{ on := 3, ground := Ground.chain }], guard := none }) rfl rfl [3] (by kernel_rfl) ?_ ?_
              · intro Q2 u X wv hR hu hd K hK
                obtain ⟨q0, q1, q2, q3, q4, q5, q6, q7, q8, q9, q10, q11, q12, q13, q14, q15, q16⟩ := hR
                refine ⟨?_⟩
                simp only [Inv.puts, Act.put, List.setIfInBounds_toArray, List.set_cons_zero, List.set_cons_succ] at hK
                simp only [Inv.puts, Act.put, List.setIfInBounds_toArray, List.set_cons_zero, List.set_cons_succ]
                go_simp
                go_at_call 15
                refine (wide_v _ 0 2).mono ?_
                rintro e w2 ⟨rfl, hB⟩
                refine hK.out (Inv.upd X 44 (.agg #[.int .i64 20, .bool false, .bool false, .int .i64 0, .int .i64 0, .int .i64 0, .int .i64 0, .int .i64 2])) _ ?_
                exact ⟨q0.trans (hB.mono q0.size), fun h => q1 (h.resolve_left (by decide)), fun h => q2 (h.resolve_left (by decide)), fun h => q3 (h.resolve_left (by decide)), fun h => q4 (h.resolve_left (by decide)), fun h => q5 (h.resolve_left (by decide)), fun h => q6 (h.resolve_left (by decide)), fun _ => rfl, fun h => q8 (h.resolve_left (by decide)), fun h => q9 (h.resolve_left (by decide)), fun h => by obtain ⟨b, e1, e2⟩ := q10 (h.resolve_left (by decide)); exact ⟨b, e1, e2.up hB⟩, fun h => q11 (h.resolve_left (by decide)), fun h => q12 (h.resolve_left (by decide)), fun h => q13 (h.resolve_left (by decide)), fun h => q14 (h.resolve_left (by decide)), fun h => q15 (h.resolve_left (by decide)), (q16.step (by decide) (by decide)).up hB⟩
              refine Inv.AllInv.cons ({ dst := some 45, op := Op.build 57 #[(0, Operand.const (Value.int IntKind.i64 15)), (4, Operand.const (Value.int IntKind.i64 5)), (7, Operand.const (Value.int IntKind.i64 9))], type := 57, pos := "outright.go:213", after := #[], guard := none }) rfl rfl [] (by kernel_rfl) ?_ ?_
              · intro Q2 u X wv hR hu hd K hK
                obtain ⟨q0, q1, q2, q3, q4, q5, q6, q7, q8, q9, q10, q11, q12, q13, q14, q15, q16⟩ := hR
                refine ⟨?_⟩
                simp only [Inv.puts, Act.put, List.setIfInBounds_toArray, List.set_cons_zero, List.set_cons_succ] at hK
                simp only [Inv.puts, Act.put, List.setIfInBounds_toArray, List.set_cons_zero, List.set_cons_succ]
                go_simp
                refine hK.out (Inv.upd X 45 (.agg #[.int .i64 15, .bool false, .bool false, .int .i64 0, .int .i64 5, .int .i64 0, .int .i64 0, .int .i64 9])) _ ?_
                exact ⟨q0, fun h => q1 (h.resolve_left (by decide)), fun h => q2 (h.resolve_left (by decide)), fun h => q3 (h.resolve_left (by decide)), fun h => q4 (h.resolve_left (by decide)), fun h => q5 (h.resolve_left (by decide)), fun h => q6 (h.resolve_left (by decide)), fun h => q7 (h.resolve_left (by decide)), fun _ => rfl, fun h => q9 (h.resolve_left (by decide)), fun h => by obtain ⟨b, e1, e2⟩ := q10 (h.resolve_left (by decide)); exact ⟨b, e1, e2⟩, fun h => q11 (h.resolve_left (by decide)), fun h => q12 (h.resolve_left (by decide)), fun h => q13 (h.resolve_left (by decide)), fun h => q14 (h.resolve_left (by decide)), fun h => q15 (h.resolve_left (by decide)), (q16.step (by decide) (by decide))⟩
              refine Inv.AllInv.cons ({ dst := some 46, op := Op.build 57 #[(0, Operand.const (Value.int IntKind.i64 39))], type := 57, pos := "outright.go:213", after := #[], guard := none }) rfl rfl [] (by kernel_rfl) ?_ ?_
              · intro Q2 u X wv hR hu hd K hK
                obtain ⟨q0, q1, q2, q3, q4, q5, q6, q7, q8, q9, q10, q11, q12, q13, q14, q15, q16⟩ := hR
                refine ⟨?_⟩
                simp only [Inv.puts, Act.put, List.setIfInBounds_toArray, List.set_cons_zero, List.set_cons_succ] at hK
                simp only [Inv.puts, Act.put, List.setIfInBounds_toArray, List.set_cons_zero, List.set_cons_succ]
                go_simp
                refine hK.out (Inv.upd X 46 (.agg #[.int .i64 39, .bool false, .bool false, .int .i64 0, .int .i64 0, .int .i64 0, .int .i64 0, .int .i64 0])) _ ?_
                exact ⟨q0, fun h => q1 (h.resolve_left (by decide)), fun h => q2 (h.resolve_left (by decide)), fun h => q3 (h.resolve_left (by decide)), fun h => q4 (h.resolve_left (by decide)), fun h => q5 (h.resolve_left (by decide)), fun h => q6 (h.resolve_left (by decide)), fun h => q7 (h.resolve_left (by decide)), fun h => q8 (h.resolve_left (by decide)), fun _ => rfl, fun h => by obtain ⟨b, e1, e2⟩ := q10 (h.resolve_left (by decide)); exact ⟨b, e1, e2⟩, fun h => q11 (h.resolve_left (by decide)), fun h => q12 (h.resolve_left (by decide)), fun h => q13 (h.resolve_left (by decide)), fun h => q14 (h.resolve_left (by decide)), fun h => q15 (h.resolve_left (by decide)), (q16.step (by decide) (by decide))⟩
              refine Inv.AllInv.cons ({ dst := some 47, op := Op.buildSlice 24 7 #[(0, Operand.tmp 39), (1, Operand.tmp 41), (2, Operand.tmp 42), (3, Operand.tmp 43), (4, Operand.tmp 44), (5, Operand.tmp 45), (6, Operand.tmp 46)], type := 24, pos := "outright.go:213", after := #[{ on := 1, ground := Ground.data }, { on := 3, ground := Ground.data }, { on := 4, ground := Ground.data }, { on := 5, ground := Ground.data }, { on := 6, ground := Ground.data }, { on := 7, ground := Ground.data }, { on := 8, ground := Ground.data }], guard := none }) rfl rfl [1, 3, 4, 5, 6, 7, 8] (by kernel_rfl) ?_ ?_
              · intro Q2 u X wv hR hu hd K hK
                obtain ⟨q0, q1, q2, q3, q4, q5, q6, q7, q8, q9, q10, q11, q12, q13, q14, q15, q16⟩ := hR
                have e2 := q2 hd.1
                have e4 := q4 hd.2.1
                have e5 := q5 hd.2.2.1
                have e6 := q6 hd.2.2.2.1
                have e7 := q7 hd.2.2.2.2.1
                have e8 := q8 hd.2.2.2.2.2.1
                have e9 := q9 hd.2.2.2.2.2.2.1
                refine ⟨?_⟩
                simp only [Inv.puts, Act.put, List.setIfInBounds_toArray, List.set_cons_zero, List.set_cons_succ] at hK
                simp only [Inv.puts, Act.put, List.setIfInBounds_toArray, List.set_cons_zero, List.set_cons_succ, e2, e4, e5, e6, e7, e8, e9]
                go_simp
                refine hK.out (Inv.upd (Inv.upd (Inv.upd (Inv.upd (Inv.upd (Inv.upd (Inv.upd (Inv.upd X 39 (.agg #[.int .i64 20, .bool false, .bool false, .int .i64 0, .int .i64 3, .int .i64 0, .int .i64 0, .int .i64 a])) 41 (.agg #[.int .i64 20, .bool false, .bool false, .int .i64 0, .int .i64 4, .int .i64 0, .int .i64 0, .int .i64 yy])) 42 (.agg #[.int .i64 15, .bool false, .bool false, .int .i64 0, .int .i64 0, .int .i64 0, .int .i64 0, .int .i64 1])) 43 (.agg #[.int .i64 iop, .bool inar, .bool ireg, .int .i64 isz, .int .i64 idst, .int .i64 isrc, .int .i64 ioff, .int .i64 iimm])) 44 (.agg #[.int .i64 20, .bool false, .bool false, .int .i64 0, .int .i64 0, .int .i64 0, .int .i64 0, .int .i64 2])) 45 (.agg #[.int .i64 15, .bool false, .bool false, .int .i64 0, .int .i64 5, .int .i64 0, .int .i64 0, .int .i64 9])) 46 (.agg #[.int .i64 39, .bool false, .bool false, .int .i64 0, .int .i64 0, .int .i64 0, .int .i64 0, .int .i64 0])) 47 (.slice (some ⟨wv.heap.size, 0, none⟩) 7 7)) _ ?_
                rw [Inv.upd_same e2, Inv.upd_same e4, Inv.upd_same e5, Inv.upd_same e6, Inv.upd_same e7, Inv.upd_same e8, Inv.upd_same e9]
                exact ⟨q0.alloc q0.size _, fun h => q1 (h.resolve_left (by decide)), fun h => q2 (h.resolve_left (by decide)), fun h => q3 (h.resolve_left (by decide)), fun h => q4 (h.resolve_left (by decide)), fun h => q5 (h.resolve_left (by decide)), fun h => q6 (h.resolve_left (by decide)), fun h => q7 (h.resolve_left (by decide)), fun h => q8 (h.resolve_left (by decide)), fun h => q9 (h.resolve_left (by decide)), fun _ => ⟨wv.heap.size, rfl, Blk.new _ _ _⟩, fun h => q11 (h.resolve_left (by decide)), fun h => q12 (h.resolve_left (by decide)), fun h => q13 (h.resolve_left (by decide)), fun h => q14 (h.resolve_left (by decide)), fun h => q15 (h.resolve_left (by decide)), (q16.step (by decide) (by decide)).up (box1 _ _)⟩
              refine Inv.AllInv.cons ({ dst := some 48, op := Op.call { callee := Callee.value (Operand.func 14), args := #[Operand.tmp 47, Operand.const (Value.slice none 0 0)], argTypes := #[24, 22] }, type := 40, pos := "outright.go:213", after := #[{ on := 9, ground := Ground.data }, { on := 6, ground := Ground.chain }], guard := none }) rfl rfl [9, 6] (by kernel_rfl) ?_ ?_
              · intro Q2 u X wv hR hu hd K hK
                obtain ⟨q0, q1, q2, q3, q4, q5, q6, q7, q8, q9, q10, q11, q12, q13, q14, q15, q16⟩ := hR
                obtain ⟨b, e10, hblk⟩ := q10 hd.1
                have HRU := HRUN.out _ b 7 (blk_code hblk rfl)
                refine ⟨?_⟩
                simp only [Inv.puts, Act.put, List.setIfInBounds_toArray, List.set_cons_zero, List.set_cons_succ] at hK
                simp only [Inv.puts, Act.put, List.setIfInBounds_toArray, List.set_cons_zero, List.set_cons_succ, e10]
                go_simp
                go_at_call 14
                refine HRU.mono ?_
                rintro e w2 ⟨⟨A1, n1, c1, A2, n2, c2, rfl⟩, hB⟩
                refine hK.out (Inv.upd (Inv.upd X 47 (.slice (some ⟨b, 0, none⟩) 7 7)) 48 (.tuple #[.agg #[.int .i64 R, .slice A1 n1 c1, .slice none 0 0, .slice A2 n2 c2], .int .i64 0])) _ ?_
                rw [Inv.upd_same e10]
                exact ⟨q0.trans (hB.mono q0.size), fun h => q1 (h.resolve_left (by decide)), fun h => q2 (h.resolve_left (by decide)), fun h => q3 (h.resolve_left (by decide)), fun h => q4 (h.resolve_left (by decide)), fun h => q5 (h.resolve_left (by decide)), fun h => q6 (h.resolve_left (by decide)), fun h => q7 (h.resolve_left (by decide)), fun h => q8 (h.resolve_left (by decide)), fun h => q9 (h.resolve_left (by decide)), fun h => by obtain ⟨b, e1, e2⟩ := q10 (h.resolve_left (by decide)); exact ⟨b, e1, e2.up hB⟩, fun _ => ⟨_, _, _, _, _, _, rfl⟩, fun h => q12 (h.resolve_left (by decide)), fun h => q13 (h.resolve_left (by decide)), fun h => q14 (h.resolve_left (by decide)), fun h => q15 (h.resolve_left (by decide)), (q16.step (by decide) (by decide)).up hB⟩
              refine Inv.AllInv.cons ({ dst := some 37, op := Op.move (Operand.tmp 48), type := 40, pos := "outright.go:213", after := #[{ on := 10, ground := Ground.data }], guard := none }) rfl rfl [10] (by kernel_rfl) ?_ ?_
              · intro Q2 u X wv hR hu hd K hK
                obtain ⟨q0, q1, q2, q3, q4, q5, q6, q7, q8, q9, q10, q11, q12, q13, q14, q15, q16⟩ := hR
                obtain ⟨A1, n1, c1, A2, n2, c2, e11⟩ := q11 hd.1
                refine ⟨?_⟩
                simp only [Inv.puts, Act.put, List.setIfInBounds_toArray, List.set_cons_zero, List.set_cons_succ] at hK
                simp only [Inv.puts, Act.put, List.setIfInBounds_toArray, List.set_cons_zero, List.set_cons_succ, e11]
                go_simp
                refine hK.out (Inv.upd (Inv.upd X 48 (.tuple #[.agg #[.int .i64 R, .slice A1 n1 c1, .slice none 0 0, .slice A2 n2 c2], .int .i64 0])) 37 (.tuple #[.agg #[.int .i64 R, .slice A1 n1 c1, .slice none 0 0, .slice A2 n2 c2], .int .i64 0])) _ ?_
                rw [Inv.upd_same e11]
                exact ⟨q0, fun h => q1 (h.resolve_left (by decide)), fun h => q2 (h.resolve_left (by decide)), fun h => q3 (h.resolve_left (by decide)), fun h => q4 (h.resolve_left (by decide)), fun h => q5 (h.resolve_left (by decide)), fun h => q6 (h.resolve_left (by decide)), fun h => q7 (h.resolve_left (by decide)), fun h => q8 (h.resolve_left (by decide)), fun h => q9 (h.resolve_left (by decide)), fun h => by obtain ⟨b, e1, e2⟩ := q10 (h.resolve_left (by decide)); exact ⟨b, e1, e2⟩, fun h => q11 (h.resolve_left (by decide)), fun _ => ⟨_, _, _, _, _, _, rfl⟩, fun h => q13 (h.resolve_left (by decide)), fun h => q14 (h.resolve_left (by decide)), fun h => q15 (h.resolve_left (by decide)), (q16.step (by decide) (by decide))⟩
              refine Inv.AllInv.cons ({ dst := some 49, op := Op.extract (Operand.tmp 37) 0, type := 39, pos := "outright.go:213", after := #[{ on := 11, ground := Ground.data }], guard := none }) rfl rfl [11] (by kernel_rfl) ?_ ?_
              · intro Q2 u X wv hR hu hd K hK
                obtain ⟨q0, q1, q2, q3, q4, q5, q6, q7, q8, q9, q10, q11, q12, q13, q14, q15, q16⟩ := hR
                obtain ⟨A1, n1, c1, A2, n2, c2, e12⟩ := q12 hd.1
                refine ⟨?_⟩
                simp only [Inv.puts, Act.put, List.setIfInBounds_toArray, List.set_cons_zero, List.set_cons_succ] at hK
                simp only [Inv.puts, Act.put, List.setIfInBounds_toArray, List.set_cons_zero, List.set_cons_succ, e12]
                go_simp
                refine hK.out (Inv.upd (Inv.upd X 37 (.tuple #[.agg #[.int .i64 R, .slice A1 n1 c1, .slice none 0 0, .slice A2 n2 c2], .int .i64 0])) 49 (.agg #[.int .i64 R, .slice A1 n1 c1, .slice none 0 0, .slice A2 n2 c2])) _ ?_
                rw [Inv.upd_same e12]
                exact ⟨q0, fun h => q1 (h.resolve_left (by decide)), fun h => q2 (h.resolve_left (by decide)), fun h => q3 (h.resolve_left (by decide)), fun h => q4 (h.resolve_left (by decide)), fun h => q5 (h.resolve_left (by decide)), fun h => q6 (h.resolve_left (by decide)), fun h => q7 (h.resolve_left (by decide)), fun h => q8 (h.resolve_left (by decide)), fun h => q9 (h.resolve_left (by decide)), fun h => by obtain ⟨b, e1, e2⟩ := q10 (h.resolve_left (by decide)); exact ⟨b, e1, e2⟩, fun h => q11 (h.resolve_left (by decide)), fun h => q12 (h.resolve_left (by decide)), fun _ => ⟨_, _, _, _, _, _, rfl⟩, fun h => q14 (h.resolve_left (by decide)), fun h => q15 (h.resolve_left (by decide)), (q16.step (by decide) (by decide))⟩
              refine Inv.AllInv.cons ({ dst := some 50, op := Op.extract (Operand.tmp 37) 1, type := 32, pos := "outright.go:213", after := #[{ on := 11, ground := Ground.data }, { on := 15, ground := Ground.gcOnly Departure.lateStores }], guard := none }) rfl rfl [11] (by kernel_rfl) ?_ ?_
              · intro Q2 u X wv hR hu hd K hK
                obtain ⟨q0, q1, q2, q3, q4, q5, q6, q7, q8, q9, q10, q11, q12, q13, q14, q15, q16⟩ := hR
                obtain ⟨A1, n1, c1, A2, n2, c2, e12⟩ := q12 hd.1
                refine ⟨?_⟩
                simp only [Inv.puts, Act.put, List.setIfInBounds_toArray, List.set_cons_zero, List.set_cons_succ] at hK
                simp only [Inv.puts, Act.put, List.setIfInBounds_toArray, List.set_cons_zero, List.set_cons_succ, e12]
                go_simp
                refine hK.out (Inv.upd (Inv.upd X 37 (.tuple #[.agg #[.int .i64 R, .slice A1 n1 c1, .slice none 0 0, .slice A2 n2 c2], .int .i64 0])) 50 (.int .i64 0)) _ ?_
                rw [Inv.upd_same e12]
                exact ⟨q0, fun h => q1 (h.resolve_left (by decide)), fun h => q2 (h.resolve_left (by decide)), fun h => q3 (h.resolve_left (by decide)), fun h => q4 (h.resolve_left (by decide)), fun h => q5 (h.resolve_left (by decide)), fun h => q6 (h.resolve_left (by decide)), fun h => q7 (h.resolve_left (by decide)), fun h => q8 (h.resolve_left (by decide)), fun h => q9 (h.resolve_left (by decide)), fun h => by obtain ⟨b, e1, e2⟩ := q10 (h.resolve_left (by decide)); exact ⟨b, e1, e2⟩, fun h => q11 (h.resolve_left (by decide)), fun h => q12 (h.resolve_left (by decide)), fun h => q13 (h.resolve_left (by decide)), fun _ => rfl, fun h => q15 (h.resolve_left (by decide)), (q16.step (by decide) (by decide))⟩
              refine Inv.AllInv.cons ({ dst := some 9, op := Op.alloc 39, type := 0, pos := "outright.go:213", after := #[], guard := none }) rfl rfl [] (by kernel_rfl) ?_ ?_
              · intro Q2 u X wv hR hu hd K hK
                obtain ⟨q0, q1, q2, q3, q4, q5, q6, q7, q8, q9, q10, q11, q12, q13, q14, q15, q16⟩ := hR
                refine ⟨?_⟩
                simp only [Inv.puts, Act.put, List.setIfInBounds_toArray, List.set_cons_zero, List.set_cons_succ] at hK
                simp only [Inv.puts, Act.put, List.setIfInBounds_toArray, List.set_cons_zero, List.set_cons_succ]
                go_simp
                refine hK.out (Inv.upd X 9 (.pointer (some ⟨wv.heap.size, 0, none⟩))) _ ?_
                exact ⟨q0.alloc q0.size _, fun h => q1 (h.resolve_left (by decide)), fun h => q2 (h.resolve_left (by decide)), fun h => q3 (h.resolve_left (by decide)), fun h => q4 (h.resolve_left (by decide)), fun h => q5 (h.resolve_left (by decide)), fun h => q6 (h.resolve_left (by decide)), fun h => q7 (h.resolve_left (by decide)), fun h => q8 (h.resolve_left (by decide)), fun h => q9 (h.resolve_left (by decide)), fun h => by obtain ⟨b, e1, e2⟩ := q10 (h.resolve_left (by decide)); exact ⟨b, e1, e2.up (box1 _ _)⟩, fun h => q11 (h.resolve_left (by decide)), fun h => q12 (h.resolve_left (by decide)), fun h => q13 (h.resolve_left (by decide)), fun h => q14 (h.resolve_left (by decide)), fun h => q15 (h.resolve_left (by decide)), q16.made hu (by decide) q0.size rfl⟩
              refine Inv.AllInv.cons ({ dst := none, op := Op.store 39 (Operand.tmp 9) (Operand.tmp 49), type := 0, pos := "outright.go:213", after := #[{ on := 14, ground := Ground.data }, { on := 12, ground := Ground.data }, { on := 10, ground := Ground.chain }, { on := 0, ground := Ground.phase }, { on := 1, ground := Ground.phase }, { on := 2, ground := Ground.phase }, { on := 3, ground := Ground.phase }, { on := 4, ground := Ground.phase }, { on := 5, ground := Ground.phase }, { on := 6, ground := Ground.phase }, { on := 7, ground := Ground.phase }, { on := 8, ground := Ground.phase }, { on := 9, ground := Ground.phase }, { on := 10, ground := Ground.phase }, { on := 11, ground := Ground.phase }, { on := 12, ground := Ground.phase }, { on := 13, ground := Ground.textOnly Departure.lateStores }, { on := 14, ground := Ground.phase }], guard := none }) rfl rfl [14, 12, 10, 0, 1, 2, 3, 4, 5, 6, 7, 8, 9, 10, 11, 12, 14] (by kernel_rfl) ?_ ?_
              · intro Q2 u X wv hR hu hd K hK
                obtain ⟨q0, q1, q2, q3, q4, q5, q6, q7, q8, q9, q10, q11, q12, q13, q14, q15, q16⟩ := hR
                obtain ⟨A1, n1, c1, A2, n2, c2, e13⟩ := q13 hd.2.1
                have ha := hd.1
                obtain ⟨g, zs, eX, hg, hz, hBz, -⟩ := q16.2 ha
                obtain ⟨z0, z1, z2, z3, rfl⟩ := arr4_of hz
                obtain ⟨⟨b0, b1, b2, b3⟩, f0, f1, f2, f3⟩ := hBz.four
                have hBx := hBz.set4 (.int .i64 R) (.slice A1 n1 c1) (.slice none 0 0) (.slice A2 n2 c2)
                have hT := Touch.set4 (g := g) wv 0 1 2 3 (.int .i64 R) (.slice A1 n1 c1) (.slice none 0 0) (.slice A2 n2 c2)
                refine ⟨?_⟩
                simp only [Inv.puts, Act.put, List.setIfInBounds_toArray, List.set_cons_zero, List.set_cons_succ] at hK
                simp only [Inv.puts, Act.put, List.setIfInBounds_toArray, List.set_cons_zero, List.set_cons_succ, e13, eX]
                go_simp
                refine hK.out (Inv.upd (Inv.upd X 49 (.agg #[.int .i64 R, .slice A1 n1 c1, .slice none 0 0, .slice A2 n2 c2])) 9 (.pointer (some ⟨g, 0, none⟩))) _ ?_
                rw [Inv.upd_same e13, Inv.upd_same eX]
                exact ⟨below_touch q0 hT hg q0.size, fun h => q1 (h.resolve_left (by decide)), fun h => q2 (h.resolve_left (by decide)), fun h => q3 (h.resolve_left (by decide)), fun h => q4 (h.resolve_left (by decide)), fun h => q5 (h.resolve_left (by decide)), fun h => q6 (h.resolve_left (by decide)), fun h => q7 (h.resolve_left (by decide)), fun h => q8 (h.resolve_left (by decide)), fun h => q9 (h.resolve_left (by decide)), fun h => by obtain ⟨b, e1, e2⟩ := q10 (h.resolve_left (by decide)); exact ⟨b, e1, e2.touch hT (Blk.ne_ e2 hBz (by decide))⟩, fun h => q11 (h.resolve_left (by decide)), fun h => q12 (h.resolve_left (by decide)), fun h => q13 (h.resolve_left (by decide)), fun h => q14 (h.resolve_left (by decide)), fun h => q15 (h.resolve_left (by decide)), by rw [show _ = _ from eX]; exact SlotP.stored hg ha hBx rfl ⟨_, _, _, _, _, _, rfl⟩⟩
              refine Inv.AllInv.cons ({ dst := some 10, op := Op.assign (Operand.tmp 50), type := 32, pos := "outright.go:213", after := #[{ on := 13, ground := Ground.data }, { on := 15, ground := Ground.chain }, { on := 0, ground := Ground.phase }, { on := 1, ground := Ground.phase }, { on := 2, ground := Ground.phase }, { on := 3, ground := Ground.phase }, { on := 4, ground := Ground.phase }, { on := 5, ground := Ground.phase }, { on := 6, ground := Ground.phase }, { on := 7, ground := Ground.phase }, { on := 8, ground := Ground.phase }, { on := 9, ground := Ground.phase }, { on := 10, ground := Ground.phase }, { on := 11, ground := Ground.phase }, { on := 12, ground := Ground.phase }, { on := 13, ground := Ground.phase }, { on := 14, ground := Ground.phase }, { on := 15, ground := Ground.phase }], guard := none }) rfl rfl [13, 15, 0, 1, 2, 3, 4, 5, 6, 7, 8, 9, 10, 11, 12, 13, 14, 15] (by kernel_rfl) ?_ ?_
              · intro Q2 u X wv hR hu hd K hK
                obtain ⟨q0, q1, q2, q3, q4, q5, q6, q7, q8, q9, q10, q11, q12, q13, q14, q15, q16⟩ := hR
                have e14 := q14 hd.1
                refine ⟨?_⟩
                simp only [Inv.puts, Act.put, List.setIfInBounds_toArray, List.set_cons_zero, List.set_cons_succ] at hK
                simp only [Inv.puts, Act.put, List.setIfInBounds_toArray, List.set_cons_zero, List.set_cons_succ, e14]
                go_simp
                refine hK.out (Inv.upd (Inv.upd X 50 (.int .i64 0)) 10 (.int .i64 0)) _ ?_
                rw [Inv.upd_same e14]
                exact ⟨q0, fun h => q1 (h.resolve_left (by decide)), fun h => q2 (h.resolve_left (by decide)), fun h => q3 (h.resolve_left (by decide)), fun h => q4 (h.resolve_left (by decide)), fun h => q5 (h.resolve_left (by decide)), fun h => q6 (h.resolve_left (by decide)), fun h => q7 (h.resolve_left (by decide)), fun h => q8 (h.resolve_left (by decide)), fun h => q9 (h.resolve_left (by decide)), fun h => by obtain ⟨b, e1, e2⟩ := q10 (h.resolve_left (by decide)); exact ⟨b, e1, e2⟩, fun h => q11 (h.resolve_left (by decide)), fun h => q12 (h.resolve_left (by decide)), fun h => q13 (h.resolve_left (by decide)), fun h => q14 (h.resolve_left (by decide)), fun _ => rfl, (q16.step (by decide) (by decide))⟩
              exact Inv.AllInv.nil
            · intro u X wv hd hR
              obtain ⟨q0, q1, q2, q3, q4, q5, q6, q7, q8, q9, q10, q11, q12, q13, q14, q15, q16⟩ := hR
              obtain ⟨u0, u1, u2, u3, u4, u5, u6, u7, u8, u9, u10, u11, u12, u13, u14, u15, u16, -⟩ := hd
              obtain ⟨b_10, ex10, -⟩ := q10 u9
              obtain ⟨A1_11, n1_11, c1_11, A2_11, n2_11, c2_11, ex11⟩ := q11 u10
              obtain ⟨A1_12, n1_12, c1_12, A2_12, n2_12, c2_12, ex12⟩ := q12 u11
              obtain ⟨A1_13, n1_13, c1_13, A2_13, n2_13, c2_13, ex13⟩ := q13 u12
              obtain ⟨p0, _, ep0, hp0, hP0, A1_16, n1_16, c1_16, A2_16, n2_16, c2_16, rfl⟩ := q16.full u15
              simp only [Inv.puts, Act.put, List.setIfInBounds_toArray, List.set_cons_zero, List.set_cons_succ, q1 u0, q2 u1, q3 u2, q4 u3, q5 u4, q6 u5, q7 u6, q8 u7, q9 u8, ex10, ex11, ex12, ex13, q14 u13, q15 u16, ep0]
              have HQ0 := Lib.hid q0
              clear q0 q1 q2 q3 q4 q5 q6 q7 q8 q9 q10 q11 q12 q13 q14 q15 q16
              clear ep0 ex10 ex11 ex12 ex13 u0 u1 u2 u3 u4 u5 u6 u7 u8 u9 u10 u11 u12 u13 u14 u15 u16
              obtain ⟨⟨o0, o1, o2, o3⟩, -⟩ := hP0.four
              have HB2 := Lib.hid (HB1.out.trans (HQ0.out.mono HB1.out.size))
              obtain ⟨c0, c1, c2, c3, c4, c5, c6, c7⟩ := (HI.out.up HQ0.out).eight
              clear HQ0 hP0 hp0 HB1 HI HRUN
              have HN := Lib.hid (HNW.out wv j nar a yy iop inar ireg isz idst isrc ioff iimm HJ.out HJI.out)
              have HO := Lib.hid (holds_any j nar a yy wv)
              have hand := HAND.out
              have hnar := HNAR.out
              clear HAND HNAR HJI HJ
              cases hh : holdsM j nar a yy
              all_goals
                rw [hh] at HN HO HR
                have hr := HR.out
                simp only [if_true, if_false, reduceIte, Bool.false_eq_true] at hr
                subst hr
                clear HR hh
                go_wp2_with (first | (go_at_call 16; refine HO.out.mono ?_; rintro e w' ⟨rfl, rfl⟩) | (go_at_call 17; refine HN.out.mono ?_; rintro e w3 ⟨rfl, hB3⟩))
                go_roundw
                case rel => exact ⟨k + 1, by omega, by go_num, HB2.out.trans (hB3.mono HB2.out.size)⟩
                case measure => simp [intOf]; omega
        · go_wp2_with fail
          go_roundw
          case rel => exact ⟨j + 1, by omega, by omega, by go_num, hB⟩
          case measure => simp [intOf]; omega
    · obtain rfl : j = 38 := by omega
      go_wp2_with fail
      go_ret
      exact ⟨rfl, hB⟩
end Go.Proofs.YtpigkppnelnhiaaGreat
