/- MachAlu: the walk. Written by gen_mcalu.py. -/
import Derived.Test.YthiphnaaljifnaaGreatMcR
import Derived.Test.YthiphnaaljifnaaGreatInv
namespace Go.Proofs.YthiphnaaljifnaaGreat
open Go.ChangeShapes Go.WideShapes Go.ChangeAt Go.RowKit
open Cod Bits
set_option linter.unusedVariables false
set_option linter.unusedSimpArgs false
set_option maxRecDepth 100000
theorem and_K (x : Int) (k : Nat) (hk : k ≤ 32) (m M : Int) (hm : (2 : Int) ^ k - 1 = m) (hM : (2 : Int) ^ k = M) (hb : (BitVec.ofInt 64 m).toNat = 2 ^ k - 1) (h1 : 0 < M) (h2 : M ≤ 4294967296) : bits BinOp.and IntKind.i64 x m = x % M := by
  show IntKind.i64.wrap (((BitVec.ofInt 64 x &&& BitVec.ofInt 64 m).toNat : Nat) : Int) = x % M
  rw [BitVec.toNat_and, hb, Nat.and_two_pow_sub_one_eq_mod, BitVec.toNat_ofInt]
  have e2 : (((x % ((2 ^ 64 : Nat) : Int)).toNat % 2 ^ k : Nat) : Int) = x % 2 ^ k := by
    rw [Int.natCast_emod, Int.toNat_of_nonneg (Int.emod_nonneg _ (by decide))]
    rw [show (((2 : Nat) ^ k : Nat) : Int) = 2 ^ k by simp]
    exact Int.emod_emod_of_dvd x ⟨2 ^ (64 - k), by rw [← Int.pow_add, show k + (64 - k) = 64 by omega]; rfl⟩
  rw [e2, hM]
  have h0 := Int.emod_nonneg x (show M ≠ 0 by omega)
  have h3 := Int.emod_lt_of_pos x h1
  exact IntWalk.i64_in _ (by omega)
theorem and1 (x : Int) : bits BinOp.and IntKind.i64 x 1 = x % 2 := and_K x 1 (by decide) 1 2 (by decide) (by decide) (by decide) (by decide) (by decide)
theorem and31m (x : Int) : bits BinOp.and IntKind.i64 x 31 = x % 32 := and_K x 5 (by decide) 31 32 (by decide) (by decide) (by decide) (by decide) (by decide)
/-- the instruction and the second number, as the law has made them -/
def AluSt (w : World) (op : Int) (nar : Bool) (b : Int) (p y : Value) (wx : World) : Prop := ∃ (g : Nat) (yy iop : Int) (inar ireg : Bool) (isz idst isrc ioff iimm : Int), p = .pointer (some ⟨g, 0, none⟩) ∧ y = .int .i64 yy ∧ AI op nar b yy ⟨iop, inar, ireg, isz, idst, isrc, ioff, iimm⟩ ∧ Blk wx g 57 #[.int .i64 iop, .bool inar, .bool ireg, .int .i64 isz, .int .i64 idst, .int .i64 isrc, .int .i64 ioff, .int .i64 iimm] ∧ Below w.heap.size w wx ∧ (-9223372036854775808 ≤ yy ∧ yy ≤ 9223372036854775807)

/-- what holds, whatever has come up -/
def AluR (w1 : World) (a yy E R : Int) (iop : Int) (inar ireg : Bool) (isz idst isrc ioff iimm : Int) (u : Nat → Prop) (X : Tmp → Value) (w : World) : Prop :=
  Below w1.heap.size w1 w ∧
  (u 0 → X 73 = .int .i64 a) ∧
  (u 1 → X 74 = .agg #[.int .i64 20, .bool false, .bool false, .int .i64 0, .int .i64 0, .int .i64 0, .int .i64 0, .int .i64 a]) ∧
  (u 2 → X 75 = .int .i64 yy) ∧
  (u 3 → X 76 = .agg #[.int .i64 20, .bool false, .bool false, .int .i64 0, .int .i64 3, .int .i64 0, .int .i64 0, .int .i64 yy]) ∧
  (u 4 → X 77 = .agg #[.int .i64 iop, .bool inar, .bool ireg, .int .i64 isz, .int .i64 idst, .int .i64 isrc, .int .i64 ioff, .int .i64 iimm]) ∧
  (u 5 → X 78 = .agg #[.int .i64 39, .bool false, .bool false, .int .i64 0, .int .i64 0, .int .i64 0, .int .i64 0, .int .i64 0]) ∧
  (u 6 → ∃ b, X 79 = .slice (some ⟨b, 0, none⟩) 4 4 ∧ Blk w b 57 #[.int .i64 20, .bool false, .bool false, .int .i64 0, .int .i64 0, .int .i64 0, .int .i64 0, .int .i64 a, .int .i64 20, .bool false, .bool false, .int .i64 0, .int .i64 3, .int .i64 0, .int .i64 0, .int .i64 yy, .int .i64 iop, .bool inar, .bool ireg, .int .i64 isz, .int .i64 idst, .int .i64 isrc, .int .i64 ioff, .int .i64 iimm, .int .i64 39, .bool false, .bool false, .int .i64 0, .int .i64 0, .int .i64 0, .int .i64 0, .int .i64 0]) ∧
  (u 7 → ∃ A1 n1 c1 A2 n2 c2, X 80 = .tuple #[.agg #[.int .i64 R, .slice A1 n1 c1, .slice none 0 0, .slice A2 n2 c2], .int .i64 E]) ∧
  (u 8 → ∃ A1 n1 c1 A2 n2 c2, X 72 = .tuple #[.agg #[.int .i64 R, .slice A1 n1 c1, .slice none 0 0, .slice A2 n2 c2], .int .i64 E]) ∧
  (u 9 → ∃ A1 n1 c1 A2 n2 c2, X 81 = .agg #[.int .i64 R, .slice A1 n1 c1, .slice none 0 0, .slice A2 n2 c2]) ∧
  (u 10 → X 82 = .int .i64 E) ∧
  (u 13 → X 12 = .int .i64 E) ∧
  SlotP w1.heap.size 39 (u 11) (u 12) (X 11) w 4 (fun zs => ∃ A1 n1 c1 A2 n2 c2, zs = #[.int .i64 R, .slice A1 n1 c1, .slice none 0 0, .slice A2 n2 c2])

set_option maxHeartbeats 8000000 in
theorem machAlu_walk (w : World) (a : Int) (ra : -9223372036854775808 ≤ a ∧ a ≤ 9223372036854775807) (b : Int) (rb : -9223372036854775808 ≤ b ∧ b ≤ 9223372036854775807) :
    Calls Tryz.prog 4 #[.int .i64 a, .int .i64 b] w fun e w' => e = .returned (.bool true) ∧ Below w.heap.size w w' := by
  have RA := Lib.hid ra
  have RB := Lib.hid rb
  clear ra rb
  go_enter Tryz.func4, Tryz.ntmps4
  go_wp2_with fail
  go_loopw [5] (fun o wr => ∃ j : Nat, 1 ≤ j ∧ j ≤ 16 ∧ o = .int .i64 j ∧ Below w.heap.size w wr) (fun o _ => (16 - intOf o).toNat)
  case atStart => exact ⟨1, by omega, by omega, rfl, Below.refl _ _⟩
  case round =>
    obtain ⟨j, hj1, hj2, rfl, hB⟩ := hrel
    by_cases hlt : j < 16
    · have g1 : (j : Int) ≤ 15 := by omega
      go_wp2_with fail
      go_loopw [6] (fun o wr => ∃ k : Nat, k ≤ 4 ∧ o = .int .i64 k ∧ Below w.heap.size w wr) (fun o _ => (4 - intOf o).toNat)
      case atStart => exact ⟨0, by omega, rfl, hB⟩
      case round =>
        clear hB
        obtain ⟨k, hk, rfl, hB⟩ := hrel
        by_cases hlk : k < 4
        · have hand := and1 k
          obtain ⟨nar, hnar⟩ : ∃ nar, ((k : Int) % 2 == 1) = nar := ⟨_, rfl⟩
          go_upto_region 9 with (fail)
          have hI1 := Blk.new wr 57 #[.int .i64 j, .bool nar, .bool true, .int .i64 0, .int .i64 0, .int .i64 3, .int .i64 0, .int .i64 0]
          have hB1 := hB.alloc hB.size (.cells #[.int .i64 j, .bool nar, .bool true, .int .i64 0, .int .i64 0, .int .i64 3, .int .i64 0, .int .i64 0] 57)
          have hp := hB.size
          generalize (wr.alloc (.cells #[.int .i64 j, .bool nar, .bool true, .int .i64 0, .int .i64 0, .int .i64 3, .int .i64 0, .int .i64 0] 57)) = w1 at *
          generalize wr.heap.size = p at *
          have HB1 := Lib.hid hB1
          have HI1 := Lib.hid hI1
          have HP := Lib.hid hp
          have HAND := Lib.hid hand
          have HNAR := Lib.hid hnar
          clear hB hB1 hI1 hp hand hnar
          go_upto_if 30 with (fail)
          go_cut [7, 8] (fun x y wx => AluSt w j nar b x y wx)
          case first =>
            by_cases hop : j = 14
            · subst hop
              have c2 := HI1.out.cell 2
              have f2 := HI1.out.frozen 2
              have c5 := HI1.out.cell 5
              have f5 := HI1.out.frozen 5
              have HI2 := Lib.hid ((HI1.out.set_ 2 (.bool false)).set_ 5 (.int .i64 0))
              have HT := Lib.hid ((Touch.set_ (g := p) w1 2 (.bool false)).trans (Touch.set_ _ 5 (.int .i64 0)))
              go_wp2_with fail
              go_meet
              case rel => exact ⟨p, b, 14, nar, false, 0, 0, 0, 0, 0, rfl, rfl, .inr (.inl ⟨rfl, rfl, rfl⟩), HI2.out, HB1.out.trans (HT.out.below HP.out HB1.out.size), RB.out⟩
            · have e14 : ((j : Int) == 14) = false := by rw [beq_eq_false_iff_ne]; omega
              have HOP := Lib.hid hop
              clear hop
              by_cases hk2 : k < 2
              · have hk3 : (k : Int) < 2 := by omega
                go_wp2_with fail
                go_meet
                case rel => exact ⟨p, b, j, nar, true, 0, 0, 3, 0, 0, rfl, rfl, .inl ⟨rfl, by have := HOP.out; omega, rfl⟩, HI1.out, HB1.out, RB.out⟩
              · have hk3 : 2 ≤ (k : Int) := by omega
                have hand := HAND.out
                have hnar := HNAR.out
                obtain ⟨⟨c0, c1, c2, c3, c4, c5, c6, c7⟩, f0, f1, f2, f3, f4, f5, f6, f7⟩ := HI1.out.eight8
                have HI2 := Lib.hid (fun yy => HI1.out.set8 (.int .i64 j) (.bool nar) (.bool false) (.int .i64 0) (.int .i64 0) (.int .i64 0) (.int .i64 0) (.int .i64 yy))
                have HT := Lib.hid (fun yy => Touch.set8 (g := p) w1 0 1 2 3 4 5 6 7 (.int .i64 j) (.bool nar) (.bool false) (.int .i64 0) (.int .i64 0) (.int .i64 0) (.int .i64 0) (.int .i64 yy))
                by_cases hs : 11 ≤ j ∧ j ≤ 13
                · have a31 := and31m b
                  have HB32 := Lib.hid (show 0 ≤ b % 32 ∧ b % 32 ≤ 31 by omega)
                  have hs1 : (11 : Int) ≤ j := by omega
                  have hs2 : (j : Int) ≤ 13 := by omega
                  have hs3 : ¬ ((j : Int) ≤ 7) := by omega
                  clear hs
                  generalize b % 32 = y2 at *
                  cases e0 : (y2 == 0)
                  all_goals
                    go_wp2_with fail
                    go_meet
                    case rel => exact ⟨p, y2, j, nar, false, 0, 0, 0, 0, y2, rfl, rfl, .inr (.inr ⟨rfl, by have := HOP.out; omega, (by have := HB32.out; omega), (fun _ _ => by omega), (fun _ _ => HB32.out)⟩), HI2.out _, HB1.out.trans ((HT.out _).below HP.out HB1.out.size), (by have := HB32.out; omega)⟩
                · have HY1 := Lib.hid (show -2147483648 ≤ wrap64 (wrap32 b) ∧ wrap64 (wrap32 b) ≤ 2147483647 by unfold wrap64 wrap32; omega)
                  obtain ⟨y1, hy1⟩ : ∃ y1, wrap64 (wrap32 b) = y1 := ⟨_, rfl⟩
                  rw [hy1] at HY1
                  have HS := Lib.hid hs
                  by_cases h0 : y1 = 0
                  · subst h0
                    by_cases h47 : 4 ≤ j ∧ j ≤ 7
                    · have hs1 : (4 : Int) ≤ j := by omega
                      have hs2 : (j : Int) ≤ 7 := by omega
                      have hs3 : ¬ ((11 : Int) ≤ j) := by omega
                      clear h47 hs
                      go_wp2_with fail
                      go_meet
                      case rel => exact ⟨p, 7, j, nar, false, 0, 0, 0, 0, 7, rfl, rfl, .inr (.inr ⟨rfl, by have := HOP.out; omega, (by omega), (fun _ _ => by omega), (fun _ _ => by omega)⟩), HI2.out _, HB1.out.trans ((HT.out _).below HP.out HB1.out.size), (by omega)⟩
                    · have H47 := Lib.hid h47
                      have hs4 : (11 : Int) ≤ j → ¬ ((j : Int) ≤ 13) := by omega
                      have hs5 : (4 : Int) ≤ j → ¬ ((j : Int) ≤ 7) := by omega
                      rcases (by omega : j < 4 ∨ (8 ≤ j ∧ j ≤ 10) ∨ 14 ≤ j) with hj | hj | hj
                      · have hs1 : ¬ ((4 : Int) ≤ j) := by omega
                        have hs2 : ¬ ((11 : Int) ≤ j) := by omega
                        clear h47 hs hs4 hs5 hj
                        go_wp2_with fail
                        go_meet
                        case rel => exact ⟨p, 0, j, nar, false, 0, 0, 0, 0, 0, rfl, rfl, .inr (.inr ⟨rfl, by have := HOP.out; omega, (by omega), (fun _ _ => by have := H47.out; omega), (fun _ _ => by omega)⟩), HI2.out _, HB1.out.trans ((HT.out _).below HP.out HB1.out.size), (by omega)⟩
                      · have hs1 : ((4 : Int) ≤ j) := by omega
                        have hs2 : ¬ ((11 : Int) ≤ j) := by omega
                        have hs3 : ¬ ((j : Int) ≤ 7) := by omega
                        clear h47 hs hs4 hs5 hj
                        go_wp2_with fail
                        go_meet
                        case rel => exact ⟨p, 0, j, nar, false, 0, 0, 0, 0, 0, rfl, rfl, .inr (.inr ⟨rfl, by have := HOP.out; omega, (by omega), (fun _ _ => by have := H47.out; omega), (fun _ _ => by omega)⟩), HI2.out _, HB1.out.trans ((HT.out _).below HP.out HB1.out.size), (by omega)⟩
                      · have hs1 : ((4 : Int) ≤ j) := by omega
                        have hs2 : ((11 : Int) ≤ j) := by omega
                        have hs3 : ¬ ((j : Int) ≤ 7) := by omega
                        have hs6 : ¬ ((j : Int) ≤ 13) := by omega
                        clear h47 hs hs4 hs5 hj
                        go_wp2_with fail
                        go_meet
                        case rel => exact ⟨p, 0, j, nar, false, 0, 0, 0, 0, 0, rfl, rfl, .inr (.inr ⟨rfl, by have := HOP.out; omega, (by omega), (fun _ _ => by have := H47.out; omega), (fun _ _ => by omega)⟩), HI2.out _, HB1.out.trans ((HT.out _).below HP.out HB1.out.size), (by omega)⟩
                  · have e0 : (y1 == 0) = false := by rw [beq_eq_false_iff_ne]; exact h0
                    have H0 := Lib.hid h0
                    rcases (by omega : j ≤ 10 ∨ 14 ≤ j) with hj | hj
                    · have hs2 : ¬ ((11 : Int) ≤ j) := by omega
                      clear hs h0 hj
                      go_wp2_with fail
                      go_meet
                      case rel => exact ⟨p, y1, j, nar, false, 0, 0, 0, 0, y1, rfl, rfl, .inr (.inr ⟨rfl, by have := HOP.out; omega, HY1.out, (fun _ _ => H0.out), (fun _ _ => by have := HS.out; omega)⟩), HI2.out _, HB1.out.trans ((HT.out _).below HP.out HB1.out.size), (by have := HY1.out; omega)⟩
                    · have hs2 : ((11 : Int) ≤ j) := by omega
                      have hs3 : ¬ ((j : Int) ≤ 13) := by omega
                      clear hs h0 hj
                      go_wp2_with fail
                      go_meet
                      case rel => exact ⟨p, y1, j, nar, false, 0, 0, 0, 0, y1, rfl, rfl, .inr (.inr ⟨rfl, by have := HOP.out; omega, HY1.out, (fun _ _ => H0.out), (fun _ _ => by have := HS.out; omega)⟩), HI2.out _, HB1.out.trans ((HT.out _).below HP.out HB1.out.size), (by have := HY1.out; omega)⟩
          case rest =>
            clear HI1 HB1 HP
            clear w1 p
            obtain ⟨g, yy, iop, inar, ireg, isz, idst, isrc, ioff, iimm, rfl, rfl, hai, hI, hB, hyy⟩ := hcut
            have HJ := Lib.hid (show 1 ≤ (j : Int) ∧ (j : Int) ≤ 15 by omega)
            have HRUN := Lib.hid (fun w' bb c hC => runs_ai w' ⟨bb, 0, none⟩ c a b yy j nar ⟨iop, inar, ireg, isz, idst, isrc, ioff, iimm⟩ HJ.out hai hyy hC)
            have HAL := Lib.hid (alu_any j nar a yy wc)
            generalize aluR j nar a yy = R at *
            generalize aluE j nar yy = E at *
            have hand := HAND.out
            have hnar := HNAR.out
            have HI0 := Lib.hid hI
            have HB0 := Lib.hid hB
            clear hai hI hB hyy HAND HNAR
            go_wp2_with fail
            go_at_call 23
            refine HAL.out.mono ?_
            rintro e w1 ⟨rfl, hB1⟩
            have HI := Lib.hid (HI0.out.up hB1)
            have HB1 := Lib.hid (HB0.out.trans (hB1.mono HB0.out.size))
            clear hB1 HI0 HB0 HAL hand hnar
            go_upto_region 20 with (fail)
            refine Inv.wp_region_inv [11, 12, 72, 73, 74, 75, 76, 77, 78, 79, 80, 81, 82] (AluR w1 a yy E R iop inar ireg isz idst isrc ioff iimm) (by kernel_rfl) (by kernel_rfl) [0, 1, 2, 3, 4, 5, 6, 7, 8, 9, 10, 11, 12, 13] (by kernel_rfl) ?_ ?_ ?_
            · exact ⟨bdrw (Below.refl _ _), fun h => h.elim, fun h => h.elim, fun h => h.elim, fun h => h.elim, fun h => h.elim, fun h => h.elim, fun h => h.elim, fun h => h.elim, fun h => h.elim, fun h => h.elim, fun h => h.elim, fun h => h.elim, SlotP.no⟩
            · refine Inv.AllInv.cons ({ dst := some 73, op := Op.move (Operand.tmp 0), type := 3, pos := "outright.go:166", after := #[], guard := none }) rfl rfl [] (by kernel_rfl) ?_ ?_
              · intro Q2 u X wv hR hu hd K hK
                obtain ⟨q0, q1, q2, q3, q4, q5, q6, q7, q8, q9, q10, q11, q12, q13⟩ := hR
                refine ⟨?_⟩
                simp only [Inv.puts, Act.put, List.setIfInBounds_toArray, List.set_cons_zero, List.set_cons_succ] at hK
                simp only [Inv.puts, Act.put, List.setIfInBounds_toArray, List.set_cons_zero, List.set_cons_succ]
                go_simp
                refine hK.out (Inv.upd X 73 (.int .i64 a)) _ ?_
                exact ⟨q0, fun _ => rfl, fun h => q2 (h.resolve_left (by decide)), fun h => q3 (h.resolve_left (by decide)), fun h => q4 (h.resolve_left (by decide)), fun h => q5 (h.resolve_left (by decide)), fun h => q6 (h.resolve_left (by decide)), fun h => by obtain ⟨b, e1, e2⟩ := q7 (h.resolve_left (by decide)); exact ⟨b, e1, e2⟩, fun h => q8 (h.resolve_left (by decide)), fun h => q9 (h.resolve_left (by decide)), fun h => q10 (h.resolve_left (by decide)), fun h => q11 (h.resolve_left (by decide)), fun h => q12 (h.resolve_left (by decide)), (q13.step (by decide) (by decide))⟩
              refine Inv.AllInv.cons ({ dst := some 74, op := Op.call { callee := Callee.value (Operand.func 25), args := #[Operand.const (Value.int IntKind.i64 0), Operand.tmp 73], argTypes := #[3, 3] }, type := 57, pos := "outright.go:166", after := #[{ on := 0, ground := Ground.data }], guard := none }) rfl rfl [0] (by kernel_rfl) ?_ ?_
              · intro Q2 u X wv hR hu hd K hK
                obtain ⟨q0, q1, q2, q3, q4, q5, q6, q7, q8, q9, q10, q11, q12, q13⟩ := hR
                have e1 := q1 hd.1
                refine ⟨?_⟩
                simp only [Inv.puts, Act.put, List.setIfInBounds_toArray, List.set_cons_zero, List.set_cons_succ] at hK
                simp only [Inv.puts, Act.put, List.setIfInBounds_toArray, List.set_cons_zero, List.set_cons_succ, e1]
                go_simp
                go_at_call 25
                refine (wide_v _ 0 a).mono ?_
                rintro e w2 ⟨rfl, hB⟩
                refine hK.out (Inv.upd (Inv.upd X 73 (.int .i64 a)) 74 (.agg #[.int .i64 20, .bool false, .bool false, .int .i64 0, .int .i64 0, .int .i64 0, .int .i64 0, .int .i64 a])) _ ?_
                rw [Inv.upd_same e1]
                exact ⟨q0.trans (hB.mono q0.size), fun h => q1 (h.resolve_left (by decide)), fun _ => rfl, fun h => q3 (h.resolve_left (by decide)), fun h => q4 (h.resolve_left (by decide)), fun h => q5 (h.resolve_left (by decide)), fun h => q6 (h.resolve_left (by decide)), fun h => by obtain ⟨b, e1, e2⟩ := q7 (h.resolve_left (by decide)); exact ⟨b, e1, e2.up hB⟩, fun h => q8 (h.resolve_left (by decide)), fun h => q9 (h.resolve_left (by decide)), fun h => q10 (h.resolve_left (by decide)), fun h => q11 (h.resolve_left (by decide)), fun h => q12 (h.resolve_left (by decide)), (q13.step (by decide) (by decide)).up hB⟩
              refine Inv.AllInv.cons ({ dst := some 75, op := Op.move (Operand.tmp 8), type := 3, pos := "outright.go:166", after := #[], guard := none }) rfl rfl [] (by kernel_rfl) ?_ ?_
              · intro Q2 u X wv hR hu hd K hK
                obtain ⟨q0, q1, q2, q3, q4, q5, q6, q7, q8, q9, q10, q11, q12, q13⟩ := hR
                refine ⟨?_⟩
                simp only [Inv.puts, Act.put, List.setIfInBounds_toArray, List.set_cons_zero, List.set_cons_succ] at hK
                simp only [Inv.puts, Act.put, List.setIfInBounds_toArray, List.set_cons_zero, List.set_cons_succ]
                go_simp
                refine hK.out (Inv.upd X 75 (.int .i64 yy)) _ ?_
                exact ⟨q0, fun h => q1 (h.resolve_left (by decide)), fun h => q2 (h.resolve_left (by decide)), fun _ => rfl, fun h => q4 (h.resolve_left (by decide)), fun h => q5 (h.resolve_left (by decide)), fun h => q6 (h.resolve_left (by decide)), fun h => by obtain ⟨b, e1, e2⟩ := q7 (h.resolve_left (by decide)); exact ⟨b, e1, e2⟩, fun h => q8 (h.resolve_left (by decide)), fun h => q9 (h.resolve_left (by decide)), fun h => q10 (h.resolve_left (by decide)), fun h => q11 (h.resolve_left (by decide)), fun h => q12 (h.resolve_left (by decide)), (q13.step (by decide) (by decide))⟩
              refine Inv.AllInv.cons ({ dst := some 76, op := Op.call { callee := Callee.value (Operand.func 25), args := #[Operand.const (Value.int IntKind.i64 3), Operand.tmp 75], argTypes := #[3, 3] }, type := 57, pos := "outright.go:166", after := #[{ on := 2, ground := Ground.data }, { on := 1, ground := Ground.chain }], guard := none }) rfl rfl [2, 1] (by kernel_rfl) ?_ ?_
              · intro Q2 u X wv hR hu hd K hK
                obtain ⟨q0, q1, q2, q3, q4, q5, q6, q7, q8, q9, q10, q11, q12, q13⟩ := hR
                have e3 := q3 hd.1
                refine ⟨?_⟩
                simp only [Inv.puts, Act.put, List.setIfInBounds_toArray, List.set_cons_zero, List.set_cons_succ] at hK
                simp only [Inv.puts, Act.put, List.setIfInBounds_toArray, List.set_cons_zero, List.set_cons_succ, e3]
                go_simp
                go_at_call 25
                refine (wide_v _ 3 yy).mono ?_
                rintro e w2 ⟨rfl, hB⟩
                refine hK.out (Inv.upd (Inv.upd X 75 (.int .i64 yy)) 76 (.agg #[.int .i64 20, .bool false, .bool false, .int .i64 0, .int .i64 3, .int .i64 0, .int .i64 0, .int .i64 yy])) _ ?_
                rw [Inv.upd_same e3]
                exact ⟨q0.trans (hB.mono q0.size), fun h => q1 (h.resolve_left (by decide)), fun h => q2 (h.resolve_left (by decide)), fun h => q3 (h.resolve_left (by decide)), fun _ => rfl, fun h => q5 (h.resolve_left (by decide)), fun h => q6 (h.resolve_left (by decide)), fun h => by obtain ⟨b, e1, e2⟩ := q7 (h.resolve_left (by decide)); exact ⟨b, e1, e2.up hB⟩, fun h => q8 (h.resolve_left (by decide)), fun h => q9 (h.resolve_left (by decide)), fun h => q10 (h.resolve_left (by decide)), fun h => q11 (h.resolve_left (by decide)), fun h => q12 (h.resolve_left (by decide)), (q13.step (by decide) (by decide)).up hB⟩
              refine Inv.AllInv.cons ({ dst := some 77, op := Op.load 57 (Operand.tmp 7), type := 57, pos := "outright.go:166", after := #[], guard := none }) rfl rfl [] (by kernel_rfl) ?_ ?_
              · intro Q2 u X wv hR hu hd K hK
                obtain ⟨q0, q1, q2, q3, q4, q5, q6, q7, q8, q9, q10, q11, q12, q13⟩ := hR
                obtain ⟨c0, c1, c2, c3, c4, c5, c6, c7⟩ := (HI.out.up q0).eight
                refine ⟨?_⟩
                simp only [Inv.puts, Act.put, List.setIfInBounds_toArray, List.set_cons_zero, List.set_cons_succ] at hK
                simp only [Inv.puts, Act.put, List.setIfInBounds_toArray, List.set_cons_zero, List.set_cons_succ]
                go_simp
                refine hK.out (Inv.upd X 77 (.agg #[.int .i64 iop, .bool inar, .bool ireg, .int .i64 isz, .int .i64 idst, .int .i64 isrc, .int .i64 ioff, .int .i64 iimm])) _ ?_
                exact ⟨q0, fun h => q1 (h.resolve_left (by decide)), fun h => q2 (h.resolve_left (by decide)), fun h => q3 (h.resolve_left (by decide)), fun h => q4 (h.resolve_left (by decide)), fun _ => rfl, fun h => q6 (h.resolve_left (by decide)), fun h => by obtain ⟨b, e1, e2⟩ := q7 (h.resolve_left (by decide)); exact ⟨b, e1, e2⟩, fun h => q8 (h.resolve_left (by decide)), fun h => q9 (h.resolve_left (by decide)), fun h => q10 (h.resolve_left (by decide)), fun h => q11 (h.resolve_left (by decide)), fun h => q12 (h.resolve_left (by decide)), (q13.step (by decide) (by decide))⟩
              refine Inv.AllInv.cons ({ dst := some 78, op := Op.build 57 #[(0, Operand.const (Value.int IntKind.i64 39))], type := 57, pos := "outright.go:166", after := #[], guard := none }) rfl rfl [] (by kernel_rfl) ?_ ?_
              · intro Q2 u X wv hR hu hd K hK
                obtain ⟨q0, q1, q2, q3, q4, q5, q6, q7, q8, q9, q10, q11, q12, q13⟩ := hR
                refine ⟨?_⟩
                simp only [Inv.puts, Act.put, List.setIfInBounds_toArray, List.set_cons_zero, List.set_cons_succ] at hK
                simp only [Inv.puts, Act.put, List.setIfInBounds_toArray, List.set_cons_zero, List.set_cons_succ]
                go_simp
                refine hK.out (Inv.upd X 78 (.agg #[.int .i64 39, .bool false, .bool false, .int .i64 0, .int .i64 0, .int .i64 0, .int .i64 0, .int .i64 0])) _ ?_
                exact ⟨q0, fun h => q1 (h.resolve_left (by decide)), fun h => q2 (h.resolve_left (by decide)), fun h => q3 (h.resolve_left (by decide)), fun h => q4 (h.resolve_left (by decide)), fun h => q5 (h.resolve_left (by decide)), fun _ => rfl, fun h => by obtain ⟨b, e1, e2⟩ := q7 (h.resolve_left (by decide)); exact ⟨b, e1, e2⟩, fun h => q8 (h.resolve_left (by decide)), fun h => q9 (h.resolve_left (by decide)), fun h => q10 (h.resolve_left (by decide)), fun h => q11 (h.resolve_left (by decide)), fun h => q12 (h.resolve_left (by decide)), (q13.step (by decide) (by decide))⟩
              refine Inv.AllInv.cons ({ dst := some 79, op := Op.buildSlice 24 4 #[(0, Operand.tmp 74), (1, Operand.tmp 76), (2, Operand.tmp 77), (3, Operand.tmp 78)], type := 24, pos := "outright.go:166", after := #[{ on := 1, ground := Ground.data }, { on := 3, ground := Ground.data }, { on := 4, ground := Ground.data }, { on := 5, ground := Ground.data }], guard := none }) rfl rfl [1, 3, 4, 5] (by kernel_rfl) ?_ ?_
              · intro Q2 u X wv hR hu hd K hK
                obtain ⟨q0, q1, q2, q3, q4, q5, q6, q7, q8, q9, q10, q11, q12, q13⟩ := hR
                have e2 := q2 hd.1
                have e4 := q4 hd.2.1
                have e5 := q5 hd.2.2.1
                have e6 := q6 hd.2.2.2.1
                refine ⟨?_⟩
                simp only [Inv.puts, Act.put, List.setIfInBounds_toArray, List.set_cons_zero, List.set_cons_succ] at hK
                simp only [Inv.puts, Act.put, List.setIfInBounds_toArray, List.set_cons_zero, List.set_cons_succ, e2, e4, e5, e6]
                go_simp
                refine hK.out (Inv.upd (Inv.upd (Inv.upd (Inv.upd (Inv.upd X 74 (.agg #[.int .i64 20, .bool false, .bool false, .int .i64 0, .int .i64 0, .int .i64 0, .int .i64 0, .int .i64 a])) 76 (.agg #[.int .i64 20, .bool false, .bool false, .int .i64 0, .int .i64 3, .int .i64 0, .int .i64 0, .int .i64 yy])) 77 (.agg #[.int .i64 iop, .bool inar, .bool ireg, .int .i64 isz, .int .i64 idst, .int .i64 isrc, .int .i64 ioff, .int .i64 iimm])) 78 (.agg #[.int .i64 39, .bool false, .bool false, .int .i64 0, .int .i64 0, .int .i64 0, .int .i64 0, .int .i64 0])) 79 (.slice (some ⟨wv.heap.size, 0, none⟩) 4 4)) _ ?_
                rw [Inv.upd_same e2, Inv.upd_same e4, Inv.upd_same e5, Inv.upd_same e6]
                exact ⟨q0.alloc q0.size _, fun h => q1 (h.resolve_left (by decide)), fun h => q2 (h.resolve_left (by decide)), fun h => q3 (h.resolve_left (by decide)), fun h => q4 (h.resolve_left (by decide)), fun h => q5 (h.resolve_left (by decide)), fun h => q6 (h.resolve_left (by decide)), fun _ => ⟨wv.heap.size, rfl, Blk.new _ _ _⟩, fun h => q8 (h.resolve_left (by decide)), fun h => q9 (h.resolve_left (by decide)), fun h => q10 (h.resolve_left (by decide)), fun h => q11 (h.resolve_left (by decide)), fun h => q12 (h.resolve_left (by decide)), (q13.step (by decide) (by decide)).up (box1 _ _)⟩
              refine Inv.AllInv.cons ({ dst := some 80, op := Op.call { callee := Callee.value (Operand.func 24), args := #[Operand.tmp 79, Operand.const (Value.slice none 0 0)], argTypes := #[24, 22] }, type := 40, pos := "outright.go:166", after := #[{ on := 6, ground := Ground.data }, { on := 3, ground := Ground.chain }], guard := none }) rfl rfl [6, 3] (by kernel_rfl) ?_ ?_
              · intro Q2 u X wv hR hu hd K hK
                obtain ⟨q0, q1, q2, q3, q4, q5, q6, q7, q8, q9, q10, q11, q12, q13⟩ := hR
                obtain ⟨b, e7, hblk⟩ := q7 hd.1
                have HRU := HRUN.out _ b 4 (blk_code hblk rfl)
                refine ⟨?_⟩
                simp only [Inv.puts, Act.put, List.setIfInBounds_toArray, List.set_cons_zero, List.set_cons_succ] at hK
                simp only [Inv.puts, Act.put, List.setIfInBounds_toArray, List.set_cons_zero, List.set_cons_succ, e7]
                go_simp
                go_at_call 24
                refine HRU.mono ?_
                rintro e w2 ⟨⟨A1, n1, c1, A2, n2, c2, rfl⟩, hB⟩
                refine hK.out (Inv.upd (Inv.upd X 79 (.slice (some ⟨b, 0, none⟩) 4 4)) 80 (.tuple #[.agg #[.int .i64 R, .slice A1 n1 c1, .slice none 0 0, .slice A2 n2 c2], .int .i64 E])) _ ?_
                rw [Inv.upd_same e7]
                exact ⟨q0.trans (hB.mono q0.size), fun h => q1 (h.resolve_left (by decide)), fun h => q2 (h.resolve_left (by decide)), fun h => q3 (h.resolve_left (by decide)), fun h => q4 (h.resolve_left (by decide)), fun h => q5 (h.resolve_left (by decide)), fun h => q6 (h.resolve_left (by decide)), fun h => by obtain ⟨b, e1, e2⟩ := q7 (h.resolve_left (by decide)); exact ⟨b, e1, e2.up hB⟩, fun _ => ⟨_, _, _, _, _, _, rfl⟩, fun h => q9 (h.resolve_left (by decide)), fun h => q10 (h.resolve_left (by decide)), fun h => q11 (h.resolve_left (by decide)), fun h => q12 (h.resolve_left (by decide)), (q13.step (by decide) (by decide)).up hB⟩
              refine Inv.AllInv.cons ({ dst := some 72, op := Op.move (Operand.tmp 80), type := 40, pos := "outright.go:166", after := #[{ on := 7, ground := Ground.data }], guard := none }) rfl rfl [7] (by kernel_rfl) ?_ ?_
              · intro Q2 u X wv hR hu hd K hK
                obtain ⟨q0, q1, q2, q3, q4, q5, q6, q7, q8, q9, q10, q11, q12, q13⟩ := hR
                obtain ⟨A1, n1, c1, A2, n2, c2, e8⟩ := q8 hd.1
                refine ⟨?_⟩
                simp only [Inv.puts, Act.put, List.setIfInBounds_toArray, List.set_cons_zero, List.set_cons_succ] at hK
                simp only [Inv.puts, Act.put, List.setIfInBounds_toArray, List.set_cons_zero, List.set_cons_succ, e8]
                go_simp
                refine hK.out (Inv.upd (Inv.upd X 80 (.tuple #[.agg #[.int .i64 R, .slice A1 n1 c1, .slice none 0 0, .slice A2 n2 c2], .int .i64 E])) 72 (.tuple #[.agg #[.int .i64 R, .slice A1 n1 c1, .slice none 0 0, .slice A2 n2 c2], .int .i64 E])) _ ?_
                rw [Inv.upd_same e8]
                exact ⟨q0, fun h => q1 (h.resolve_left (by decide)), fun h => q2 (h.resolve_left (by decide)), fun h => q3 (h.resolve_left (by decide)), fun h => q4 (h.resolve_left (by decide)), fun h => q5 (h.resolve_left (by decide)), fun h => q6 (h.resolve_left (by decide)), fun h => by obtain ⟨b, e1, e2⟩ := q7 (h.resolve_left (by decide)); exact ⟨b, e1, e2⟩, fun h => q8 (h.resolve_left (by decide)), fun _ => ⟨_, _, _, _, _, _, rfl⟩, fun h => q10 (h.resolve_left (by decide)), fun h => q11 (h.resolve_left (by decide)), fun h => q12 (h.resolve_left (by decide)), (q13.step (by decide) (by decide))⟩
              refine Inv.AllInv.cons ({ dst := some 81, op := Op.extract (Operand.tmp 72) 0, type := 39, pos := "outright.go:166", after := #[{ on := 8, ground := Ground.data }], guard := none }) rfl rfl [8] (by kernel_rfl) ?_ ?_
              · intro Q2 u X wv hR hu hd K hK
                obtain ⟨q0, q1, q2, q3, q4, q5, q6, q7, q8, q9, q10, q11, q12, q13⟩ := hR
                obtain ⟨A1, n1, c1, A2, n2, c2, e9⟩ := q9 hd.1
                refine ⟨?_⟩
                simp only [Inv.puts, Act.put, List.setIfInBounds_toArray, List.set_cons_zero, List.set_cons_succ] at hK
                simp only [Inv.puts, Act.put, List.setIfInBounds_toArray, List.set_cons_zero, List.set_cons_succ, e9]
                go_simp
                refine hK.out (Inv.upd (Inv.upd X 72 (.tuple #[.agg #[.int .i64 R, .slice A1 n1 c1, .slice none 0 0, .slice A2 n2 c2], .int .i64 E])) 81 (.agg #[.int .i64 R, .slice A1 n1 c1, .slice none 0 0, .slice A2 n2 c2])) _ ?_
                rw [Inv.upd_same e9]
                exact ⟨q0, fun h => q1 (h.resolve_left (by decide)), fun h => q2 (h.resolve_left (by decide)), fun h => q3 (h.resolve_left (by decide)), fun h => q4 (h.resolve_left (by decide)), fun h => q5 (h.resolve_left (by decide)), fun h => q6 (h.resolve_left (by decide)), fun h => by obtain ⟨b, e1, e2⟩ := q7 (h.resolve_left (by decide)); exact ⟨b, e1, e2⟩, fun h => q8 (h.resolve_left (by decide)), fun h => q9 (h.resolve_left (by decide)), fun _ => ⟨_, _, _, _, _, _, rfl⟩, fun h => q11 (h.resolve_left (by decide)), fun h => q12 (h.resolve_left (by decide)), (q13.step (by decide) (by decide))⟩
              refine Inv.AllInv.cons ({ dst := some 82, op := Op.extract (Operand.tmp 72) 1, type := 32, pos := "outright.go:166", after := #[{ on := 8, ground := Ground.data }, { on := 12, ground := Ground.gcOnly Departure.lateStores }], guard := none }) rfl rfl [8] (by kernel_rfl) ?_ ?_
              · intro Q2 u X wv hR hu hd K hK
                obtain ⟨q0, q1, q2, q3, q4, q5, q6, q7, q8, q9, q10, q11, q12, q13⟩ := hR
                obtain ⟨A1, n1, c1, A2, n2, c2, e9⟩ := q9 hd.1
                refine ⟨?_⟩
                simp only [Inv.puts, Act.put, List.setIfInBounds_toArray, List.set_cons_zero, List.set_cons_succ] at hK
                simp only [Inv.puts, Act.put, List.setIfInBounds_toArray, List.set_cons_zero, List.set_cons_succ, e9]
                go_simp
                refine hK.out (Inv.upd (Inv.upd X 72 (.tuple #[.agg #[.int .i64 R, .slice A1 n1 c1, .slice none 0 0, .slice A2 n2 c2], .int .i64 E])) 82 (.int .i64 E)) _ ?_
                rw [Inv.upd_same e9]
                exact ⟨q0, fun h => q1 (h.resolve_left (by decide)), fun h => q2 (h.resolve_left (by decide)), fun h => q3 (h.resolve_left (by decide)), fun h => q4 (h.resolve_left (by decide)), fun h => q5 (h.resolve_left (by decide)), fun h => q6 (h.resolve_left (by decide)), fun h => by obtain ⟨b, e1, e2⟩ := q7 (h.resolve_left (by decide)); exact ⟨b, e1, e2⟩, fun h => q8 (h.resolve_left (by decide)), fun h => q9 (h.resolve_left (by decide)), fun h => q10 (h.resolve_left (by decide)), fun _ => rfl, fun h => q12 (h.resolve_left (by decide)), (q13.step (by decide) (by decide))⟩
              refine Inv.AllInv.cons ({ dst := some 11, op := Op.alloc 39, type := 0, pos := "outright.go:166", after := #[], guard := none }) rfl rfl [] (by kernel_rfl) ?_ ?_
              · intro Q2 u X wv hR hu hd K hK
                obtain ⟨q0, q1, q2, q3, q4, q5, q6, q7, q8, q9, q10, q11, q12, q13⟩ := hR
                refine ⟨?_⟩
                simp only [Inv.puts, Act.put, List.setIfInBounds_toArray, List.set_cons_zero, List.set_cons_succ] at hK
                simp only [Inv.puts, Act.put, List.setIfInBounds_toArray, List.set_cons_zero, List.set_cons_succ]
                go_simp
                refine hK.out (Inv.upd X 11 (.pointer (some ⟨wv.heap.size, 0, none⟩))) _ ?_
                exact ⟨q0.alloc q0.size _, fun h => q1 (h.resolve_left (by decide)), fun h => q2 (h.resolve_left (by decide)), fun h => q3 (h.resolve_left (by decide)), fun h => q4 (h.resolve_left (by decide)), fun h => q5 (h.resolve_left (by decide)), fun h => q6 (h.resolve_left (by decide)), fun h => by obtain ⟨b, e1, e2⟩ := q7 (h.resolve_left (by decide)); exact ⟨b, e1, e2.up (box1 _ _)⟩, fun h => q8 (h.resolve_left (by decide)), fun h => q9 (h.resolve_left (by decide)), fun h => q10 (h.resolve_left (by decide)), fun h => q11 (h.resolve_left (by decide)), fun h => q12 (h.resolve_left (by decide)), q13.made hu (by decide) q0.size rfl⟩
              refine Inv.AllInv.cons ({ dst := none, op := Op.store 39 (Operand.tmp 11) (Operand.tmp 81), type := 0, pos := "outright.go:166", after := #[{ on := 11, ground := Ground.data }, { on := 9, ground := Ground.data }, { on := 7, ground := Ground.chain }, { on := 0, ground := Ground.phase }, { on := 1, ground := Ground.phase }, { on := 2, ground := Ground.phase }, { on := 3, ground := Ground.phase }, { on := 4, ground := Ground.phase }, { on := 5, ground := Ground.phase }, { on := 6, ground := Ground.phase }, { on := 7, ground := Ground.phase }, { on := 8, ground := Ground.phase }, { on := 9, ground := Ground.phase }, { on := 10, ground := Ground.textOnly Departure.lateStores }, { on := 11, ground := Ground.phase }], guard := none }) rfl rfl [11, 9, 7, 0, 1, 2, 3, 4, 5, 6, 7, 8, 9, 11] (by kernel_rfl) ?_ ?_
              · intro Q2 u X wv hR hu hd K hK
                obtain ⟨q0, q1, q2, q3, q4, q5, q6, q7, q8, q9, q10, q11, q12, q13⟩ := hR
                obtain ⟨A1, n1, c1, A2, n2, c2, e10⟩ := q10 hd.2.1
                have ha := hd.1
                obtain ⟨g, zs, eX, hg, hz, hBz, -⟩ := q13.2 ha
                obtain ⟨z0, z1, z2, z3, rfl⟩ := arr4_of hz
                obtain ⟨⟨b0, b1, b2, b3⟩, f0, f1, f2, f3⟩ := hBz.four
                have hBx := hBz.set4 (.int .i64 R) (.slice A1 n1 c1) (.slice none 0 0) (.slice A2 n2 c2)
                have hT := Touch.set4 (g := g) wv 0 1 2 3 (.int .i64 R) (.slice A1 n1 c1) (.slice none 0 0) (.slice A2 n2 c2)
                refine ⟨?_⟩
                simp only [Inv.puts, Act.put, List.setIfInBounds_toArray, List.set_cons_zero, List.set_cons_succ] at hK
                simp only [Inv.puts, Act.put, List.setIfInBounds_toArray, List.set_cons_zero, List.set_cons_succ, e10, eX]
                go_simp
                refine hK.out (Inv.upd (Inv.upd X 81 (.agg #[.int .i64 R, .slice A1 n1 c1, .slice none 0 0, .slice A2 n2 c2])) 11 (.pointer (some ⟨g, 0, none⟩))) _ ?_
                rw [Inv.upd_same e10, Inv.upd_same eX]
                exact ⟨below_touch q0 hT hg q0.size, fun h => q1 (h.resolve_left (by decide)), fun h => q2 (h.resolve_left (by decide)), fun h => q3 (h.resolve_left (by decide)), fun h => q4 (h.resolve_left (by decide)), fun h => q5 (h.resolve_left (by decide)), fun h => q6 (h.resolve_left (by decide)), fun h => by obtain ⟨b, e1, e2⟩ := q7 (h.resolve_left (by decide)); exact ⟨b, e1, e2.touch hT (Blk.ne_ e2 hBz (by decide))⟩, fun h => q8 (h.resolve_left (by decide)), fun h => q9 (h.resolve_left (by decide)), fun h => q10 (h.resolve_left (by decide)), fun h => q11 (h.resolve_left (by decide)), fun h => q12 (h.resolve_left (by decide)), by rw [show _ = _ from eX]; exact SlotP.stored hg ha hBx rfl ⟨_, _, _, _, _, _, rfl⟩⟩
              refine Inv.AllInv.cons ({ dst := some 12, op := Op.assign (Operand.tmp 82), type := 32, pos := "outright.go:166", after := #[{ on := 10, ground := Ground.data }, { on := 12, ground := Ground.chain }, { on := 0, ground := Ground.phase }, { on := 1, ground := Ground.phase }, { on := 2, ground := Ground.phase }, { on := 3, ground := Ground.phase }, { on := 4, ground := Ground.phase }, { on := 5, ground := Ground.phase }, { on := 6, ground := Ground.phase }, { on := 7, ground := Ground.phase }, { on := 8, ground := Ground.phase }, { on := 9, ground := Ground.phase }, { on := 10, ground := Ground.phase }, { on := 11, ground := Ground.phase }, { on := 12, ground := Ground.phase }], guard := none }) rfl rfl [10, 12, 0, 1, 2, 3, 4, 5, 6, 7, 8, 9, 10, 11, 12] (by kernel_rfl) ?_ ?_
              · intro Q2 u X wv hR hu hd K hK
                obtain ⟨q0, q1, q2, q3, q4, q5, q6, q7, q8, q9, q10, q11, q12, q13⟩ := hR
                have e11 := q11 hd.1
                refine ⟨?_⟩
                simp only [Inv.puts, Act.put, List.setIfInBounds_toArray, List.set_cons_zero, List.set_cons_succ] at hK
                simp only [Inv.puts, Act.put, List.setIfInBounds_toArray, List.set_cons_zero, List.set_cons_succ, e11]
                go_simp
                refine hK.out (Inv.upd (Inv.upd X 82 (.int .i64 E)) 12 (.int .i64 E)) _ ?_
                rw [Inv.upd_same e11]
                exact ⟨q0, fun h => q1 (h.resolve_left (by decide)), fun h => q2 (h.resolve_left (by decide)), fun h => q3 (h.resolve_left (by decide)), fun h => q4 (h.resolve_left (by decide)), fun h => q5 (h.resolve_left (by decide)), fun h => q6 (h.resolve_left (by decide)), fun h => by obtain ⟨b, e1, e2⟩ := q7 (h.resolve_left (by decide)); exact ⟨b, e1, e2⟩, fun h => q8 (h.resolve_left (by decide)), fun h => q9 (h.resolve_left (by decide)), fun h => q10 (h.resolve_left (by decide)), fun h => q11 (h.resolve_left (by decide)), fun _ => rfl, (q13.step (by decide) (by decide))⟩
              exact Inv.AllInv.nil
            · intro u X wv hd hR
              obtain ⟨q0, q1, q2, q3, q4, q5, q6, q7, q8, q9, q10, q11, q12, q13⟩ := hR
              obtain ⟨u0, u1, u2, u3, u4, u5, u6, u7, u8, u9, u10, u11, u12, u13, -⟩ := hd
              obtain ⟨b_7, ex7, -⟩ := q7 u6
              obtain ⟨A1_8, n1_8, c1_8, A2_8, n2_8, c2_8, ex8⟩ := q8 u7
              obtain ⟨A1_9, n1_9, c1_9, A2_9, n2_9, c2_9, ex9⟩ := q9 u8
              obtain ⟨A1_10, n1_10, c1_10, A2_10, n2_10, c2_10, ex10⟩ := q10 u9
              obtain ⟨p0, _, ep0, hp0, hP0, A1_13, n1_13, c1_13, A2_13, n2_13, c2_13, rfl⟩ := q13.full u12
              simp only [Inv.puts, Act.put, List.setIfInBounds_toArray, List.set_cons_zero, List.set_cons_succ, q1 u0, q2 u1, q3 u2, q4 u3, q5 u4, q6 u5, ex7, ex8, ex9, ex10, q11 u10, q12 u13, ep0]
              have HQ0 := Lib.hid q0
              clear q0 q1 q2 q3 q4 q5 q6 q7 q8 q9 q10 q11 q12 q13
              clear ep0 ex7 ex8 ex9 ex10 u0 u1 u2 u3 u4 u5 u6 u7 u8 u9 u10 u11 u12 u13
              obtain ⟨⟨o0, o1, o2, o3⟩, -⟩ := hP0.four
              have HB2 := Lib.hid (HB1.out.trans (HQ0.out.mono HB1.out.size))
              clear HQ0 hP0 hp0 HB1 HI HRUN RA RB HJ
              go_wp2_with fail
              go_roundw
              case rel => exact ⟨k + 1, by omega, by go_num, HB2.out⟩
              case measure => simp [intOf]; omega
        · go_wp2_with fail
          go_roundw
          case rel => exact ⟨j + 1, by omega, by omega, by go_num, hB⟩
          case measure => simp [intOf]; omega
    · obtain rfl : j = 16 := by omega
      go_wp2_with fail
      refine (wide_x _ 0 2).mono ?_
      rintro e w1 ⟨rfl, hB1⟩
      have HB1 := Lib.hid (hB.trans (hB1.mono hB.size))
      have HRU := Lib.hid (runs_23 (w1.alloc (.cells #[.int .i64 20, .bool false, .bool false, .int .i64 0, .int .i64 0, .int .i64 0, .int .i64 0, .int .i64 2, .int .i64 1, .bool false, .bool false, .int .i64 0, .int .i64 0, .int .i64 0, .int .i64 0, .int .i64 3, .int .i64 39, .bool false, .bool false, .int .i64 0, .int .i64 0, .int .i64 0, .int .i64 0, .int .i64 0] 57)) ⟨w1.heap.size, 0, none⟩ 3 (blk_code (Blk.new w1 57 #[.int .i64 20, .bool false, .bool false, .int .i64 0, .int .i64 0, .int .i64 0, .int .i64 0, .int .i64 2, .int .i64 1, .bool false, .bool false, .int .i64 0, .int .i64 0, .int .i64 0, .int .i64 0, .int .i64 3, .int .i64 39, .bool false, .bool false, .int .i64 0, .int .i64 0, .int .i64 0, .int .i64 0, .int .i64 0]) rfl))
      clear hB hB1
      go_wp2_with fail
      go_at_call 24
      refine HRU.out.mono ?_
      rintro e w2 ⟨⟨A1, n1, c1, A2, n2, c2, rfl⟩, hB2⟩
      have HB2 := Lib.hid ((HB1.out.alloc HB1.out.size _).trans (hB2.mono (Nat.le_trans HB1.out.size (box1 w1 _).size)))
      clear HB1 hB2
      go_wp2_with fail
      go_ret
      exact ⟨rfl, HB2.out.alloc HB2.out.size _⟩
end Go.Proofs.YthiphnaaljifnaaGreat
