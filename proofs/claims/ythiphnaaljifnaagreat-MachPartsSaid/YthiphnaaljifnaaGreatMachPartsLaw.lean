/- MachParts: the walk. Written by gen_mcparts.py. -/
import Derived.Test.YthiphnaaljifnaaGreatMcR
import Derived.Test.YthiphnaaljifnaaGreatInv
namespace Go.Proofs.YthiphnaaljifnaaGreat
open Go.ChangeShapes Go.WideShapes Go.ChangeAt Go.RowKit
open Cod Bits
set_option linter.unusedVariables false
set_option linter.unusedSimpArgs false
set_option maxRecDepth 100000
def kop (k : Nat) : Int := if k < 2 then 16 else 15 + k
def partI (s : Int) (k : Nat) : Ins := if k < 2 then ⟨16, decide (k = 1), true, s, 0, 3, 0, 0⟩ else ⟨15 + k, false, false, s, 0, 0, 0, 0⟩
def partY (s : Int) (k : Nat) (a : Int) : Int := if k < 2 then extF s (decide (k = 1)) a else swapF s (decide (2 < k)) a
def partBad (s : Int) (k : Nat) : Bool := (decide (k < 2) && (s == 64 || (s == 32 && decide (k = 1)))) || (decide (2 ≤ k) && s == 8)
def partX (k : Nat) (a b : Int) : Int := if k < 2 then b else a
def SizeP (s : Int) : Prop := s = 8 ∨ s = 16 ∨ s = 32 ∨ s = 64
theorem four4 {k : Nat} (h : k < 5) : k = 0 ∨ k = 1 ∨ k = 2 ∨ k = 3 ∨ k = 4 := by omega
theorem part_bad (s : Int) (k : Nat) (hs : SizeP s) (hk : k < 5) (hb : partBad s k = true) : (partI s k).wrong ≠ 0 ∧ (partI s k).op ≠ 21 := by
  rcases hs with rfl | rfl | rfl | rfl <;> rcases four4 hk with rfl | rfl | rfl | rfl | rfl <;> first | exact absurd hb (by decide) | exact ⟨by decide, by decide⟩
theorem part_good (s : Int) (k : Nat) (hs : SizeP s) (hk : k < 5) (hb : partBad s k = false) : (partI s k).wrong = 0 ∧ Plain (partI s k).op := by
  rcases hs with rfl | rfl | rfl | rfl <;> rcases four4 hk with rfl | rfl | rfl | rfl | rfl <;> first | exact absurd hb (by decide) | exact ⟨by decide, .inl (by decide)⟩
theorem part_do (P : Pg) (s : Int) (k : Nat) (hk : k < 5) (x a : Int) (hx : ¬ k < 2 → x = a) : doL P (partI s k) (st2 [] x a) = setL P (st2 [] x a) 0 (V.num (partY s k a)) := by
  rcases four4 hk with rfl | rfl | rfl | rfl | rfl
  · rfl
  · rfl
  · obtain rfl := hx (by decide); rfl
  · obtain rfl := hx (by decide); rfl
  · obtain rfl := hx (by decide); rfl
theorem four_check_no (a y : Int) (i : Ins) (hr : i.wrong ≠ 0) : (checkL (prog4 a y i) 0).2 ≠ 0 := by
  have e1 : (iW 0 a).wrong = 0 := by unfold Ins.wrong iW; rfl
  have e2 : (iW 3 y).wrong = 0 := by unfold Ins.wrong iW; rfl
  unfold prog4 checkL checkL checkL
  rw [if_neg (by decide), if_pos e1, if_neg (by decide), if_pos e2, if_neg (by decide), if_neg hr]
  exact hr
theorem runs4_no (w : World) (ad : Addr) (c : Nat) (a y : Int) (i : Ins) (hC : CodeAt w (some ad) (prog4 a y i)) (hi : i.op ≠ 21) (hr : i.wrong ≠ 0) :
    Calls Tryz.prog 24 #[.slice (some ad) 4 c, .slice none 0 0] w fun e w' => (∃ A1 n1 c1 A2 n2 c2, e = .returned (.tuple #[.agg #[.int .i64 0, .slice A1 n1 c1, .slice none 0 0, .slice A2 n2 c2], .int .i64 1])) ∧ Below w.heap.size w w' := by
  have hp : ∀ j ∈ prog4 a y i, j.op ≠ 21 := by
    intro j hj
    simp only [prog4, List.mem_cons, List.not_mem_nil, or_false] at hj
    rcases hj with rfl | rfl | rfl | rfl
    · show (20 : Int) ≠ 21; decide
    · show (20 : Int) ≠ 21; decide
    · exact hi
    · show (39 : Int) ≠ 21; decide
  refine (runs_no w ad c (prog4 a y i) none 0 0 [] (by show 4 ≤ 4096; decide) (by show 1 ≤ 4; decide) hC hp (four_check_no a y i hr) rfl (by decide) (fun h => absurd h (by decide))).mono ?_
  rintro e w' ⟨rfl, hb⟩
  exact ⟨⟨none, 0, 0, none, 0, 0, rfl⟩, hb⟩
/-- what the law's program answers -/
theorem runs_part (s : Int) (k : Nat) (hs : SizeP s) (hk : k < 5) (x a : Int) (hx : ¬ k < 2 → x = a) : ∃ E R : Int, (partBad s k = true → E = 1 ∧ R = 0) ∧ (partBad s k = false → E = 0 ∧ R = partY s k a) ∧
    ∀ (w : World) (b c : Nat), CodeAt w (some ⟨b, 0, none⟩) (prog4 x a (partI s k)) → Calls Tryz.prog 24 #[.slice (some ⟨b, 0, none⟩) 4 c, .slice none 0 0] w fun e w' => (∃ A1 n1 c1 A2 n2 c2, e = .returned (.tuple #[.agg #[.int .i64 R, .slice A1 n1 c1, .slice none 0 0, .slice A2 n2 c2], .int .i64 E])) ∧ Below w.heap.size w w' := by
  cases hb : partBad s k with
  | true => exact ⟨1, 0, fun _ => ⟨rfl, rfl⟩, fun h => absurd h (by decide), fun w b c hC => runs4_no w ⟨b, 0, none⟩ c x a _ hC (part_bad s k hs hk hb).2 (part_bad s k hs hk hb).1⟩
  | false => exact ⟨0, partY s k a, fun h => absurd h (by decide), fun _ => ⟨rfl, rfl⟩, fun w b c hC => runs4 w ⟨b, 0, none⟩ c x a 0 _ _ hC (part_good s k hs hk hb).2 (part_good s k hs hk hb).1 (fun h => absurd rfl h) (fun G => by rw [if_pos rfl]; exact part_do _ s k hk x a hx)⟩
theorem runs_swap (w : World) (ad : Addr) (c : Nat) (hC : CodeAt w (some ad) (prog3 258 ⟨18, false, false, 16, 0, 0, 0, 0⟩)) :
    Calls Tryz.prog 24 #[.slice (some ad) 3 c, .slice none 0 0] w fun e w' => (∃ A1 n1 c1 A2 n2 c2, e = .returned (.tuple #[.agg #[.int .i64 513, .slice A1 n1 c1, .slice none 0 0, .slice A2 n2 c2], .int .i64 0])) ∧ Below w.heap.size w w' :=
  runs3 w ad c 258 513 _ hC (.inl (by show (1 : Int) ≤ 18 ∧ (18 : Int) ≤ 20; decide)) (by rfl) (fun G => by
    have : swapF 16 true 258 = 513 := by decide +kernel
    rw [← this]; rfl)
/-- what holds, whatever has come up -/
def PartsR (w1 : World) (xx a E R : Int) (iop : Int) (inar ireg : Bool) (isz idst isrc ioff iimm : Int) (u : Nat → Prop) (X : Tmp → Value) (w : World) : Prop :=
  Below w1.heap.size w1 w ∧
  (u 0 → X 72 = .int .i64 xx) ∧
  (u 1 → X 73 = .agg #[.int .i64 20, .bool false, .bool false, .int .i64 0, .int .i64 0, .int .i64 0, .int .i64 0, .int .i64 xx]) ∧
  (u 2 → X 74 = .int .i64 a) ∧
  (u 3 → X 75 = .agg #[.int .i64 20, .bool false, .bool false, .int .i64 0, .int .i64 3, .int .i64 0, .int .i64 0, .int .i64 a]) ∧
  (u 4 → X 76 = .agg #[.int .i64 iop, .bool inar, .bool ireg, .int .i64 isz, .int .i64 idst, .int .i64 isrc, .int .i64 ioff, .int .i64 iimm]) ∧
  (u 5 → X 77 = .agg #[.int .i64 39, .bool false, .bool false, .int .i64 0, .int .i64 0, .int .i64 0, .int .i64 0, .int .i64 0]) ∧
  (u 6 → ∃ b, X 78 = .slice (some ⟨b, 0, none⟩) 4 4 ∧ Blk w b 57 #[.int .i64 20, .bool false, .bool false, .int .i64 0, .int .i64 0, .int .i64 0, .int .i64 0, .int .i64 xx, .int .i64 20, .bool false, .bool false, .int .i64 0, .int .i64 3, .int .i64 0, .int .i64 0, .int .i64 a, .int .i64 iop, .bool inar, .bool ireg, .int .i64 isz, .int .i64 idst, .int .i64 isrc, .int .i64 ioff, .int .i64 iimm, .int .i64 39, .bool false, .bool false, .int .i64 0, .int .i64 0, .int .i64 0, .int .i64 0, .int .i64 0]) ∧
  (u 7 → ∃ A1 n1 c1 A2 n2 c2, X 79 = .tuple #[.agg #[.int .i64 R, .slice A1 n1 c1, .slice none 0 0, .slice A2 n2 c2], .int .i64 E]) ∧
  (u 8 → ∃ A1 n1 c1 A2 n2 c2, X 71 = .tuple #[.agg #[.int .i64 R, .slice A1 n1 c1, .slice none 0 0, .slice A2 n2 c2], .int .i64 E]) ∧
  (u 9 → ∃ A1 n1 c1 A2 n2 c2, X 80 = .agg #[.int .i64 R, .slice A1 n1 c1, .slice none 0 0, .slice A2 n2 c2]) ∧
  (u 10 → X 81 = .int .i64 E) ∧
  (u 13 → X 12 = .int .i64 E) ∧
  SlotP w1.heap.size 39 (u 11) (u 12) (X 11) w 4 (fun zs => ∃ A1 n1 c1 A2 n2 c2, zs = #[.int .i64 R, .slice A1 n1 c1, .slice none 0 0, .slice A2 n2 c2])
set_option maxHeartbeats 8000000 in
theorem machParts_walk (w : World) (a : Int) (ra : -9223372036854775808 ≤ a ∧ a ≤ 9223372036854775807) (b : Int) (rb : -9223372036854775808 ≤ b ∧ b ≤ 9223372036854775807) :
    Calls Tryz.prog 5 #[.int .i64 a, .int .i64 b] w fun e w' => e = .returned (.bool true) ∧ Below w.heap.size w w' := by
  clear ra rb
  go_enter Tryz.func5, Tryz.ntmps5
  go_wp2_with fail
  go_loopw [5] (fun o wr => ∃ s : Int, (SizeP s ∨ s = 128) ∧ o = .int .i64 s ∧ Below w.heap.size w wr) (fun o _ => (128 - intOf o).toNat)
  case atStart => exact ⟨8, .inl (.inl rfl), rfl, Below.refl _ _⟩
  case round =>
    obtain ⟨s, hs, rfl, hB⟩ := hrel
    rcases hs with hs | rfl
    · have g1 : s ≤ 64 := by rcases hs with rfl | rfl | rfl | rfl <;> decide
      have HS := Lib.hid hs
      clear hs
      go_wp2_with fail
      go_loopw [6] (fun o wr => ∃ k : Nat, k ≤ 5 ∧ o = .int .i64 k ∧ Below w.heap.size w wr) (fun o _ => (5 - intOf o).toNat)
      case atStart => exact ⟨0, by omega, rfl, hB⟩
      case round =>
        clear hB
        obtain ⟨k, hk, rfl, hB⟩ := hrel
        by_cases hlk : k < 5
        · have HK := Lib.hid hlk
          have HB := Lib.hid hB
          clear hB hlk hk
          have hk5 : (k : Int) < 5 := by have := HK.out; omega
          go_upto_region 7 with (fail)
          clear hk5
          go_cut [7] (fun p wx => ∃ g, p = .pointer (some ⟨g, 0, none⟩) ∧ w.heap.size ≤ g ∧ Blk wx g 57 #[.int .i64 (kop k), .bool false, .bool false, .int .i64 s, .int .i64 0, .int .i64 0, .int .i64 0, .int .i64 0] ∧ Below w.heap.size w wx)
          case first =>
            have i0 : ∀ w, (Instr.index 63 (.agg #[.int .i64 16, .int .i64 16, .int .i64 17, .int .i64 18, .int .i64 19]) (.int .i64 0)).run Tryz.prog w = .ok (.int .i64 16) w := fun _ => by kernel_rfl
            have i1 : ∀ w, (Instr.index 63 (.agg #[.int .i64 16, .int .i64 16, .int .i64 17, .int .i64 18, .int .i64 19]) (.int .i64 1)).run Tryz.prog w = .ok (.int .i64 16) w := fun _ => by kernel_rfl
            have i2 : ∀ w, (Instr.index 63 (.agg #[.int .i64 16, .int .i64 16, .int .i64 17, .int .i64 18, .int .i64 19]) (.int .i64 2)).run Tryz.prog w = .ok (.int .i64 17) w := fun _ => by kernel_rfl
            have i3 : ∀ w, (Instr.index 63 (.agg #[.int .i64 16, .int .i64 16, .int .i64 17, .int .i64 18, .int .i64 19]) (.int .i64 3)).run Tryz.prog w = .ok (.int .i64 18) w := fun _ => by kernel_rfl
            have i4 : ∀ w, (Instr.index 63 (.agg #[.int .i64 16, .int .i64 16, .int .i64 17, .int .i64 18, .int .i64 19]) (.int .i64 4)).run Tryz.prog w = .ok (.int .i64 19) w := fun _ => by kernel_rfl
            have HKO := HK.out
            clear HK
            obtain ⟨kk, hkk⟩ : ∃ kk : Int, kk = k := ⟨_, rfl⟩
            rcases four4 HKO with rfl | rfl | rfl | rfl | rfl
            all_goals
              clear HKO
              clear hkk
              go_wp2_with fail
              go_meet
              case rel => exact ⟨_, rfl, HB.out.size, Blk.new _ _ _, HB.out.alloc HB.out.size _⟩
          case rest =>
            clear HB
            obtain ⟨g, rfl, hg, hI, hB⟩ := hcut
            have HI := Lib.hid hI
            have HB := Lib.hid hB
            have HG := Lib.hid hg
            clear hI hB hg
            go_upto_if 34 with (go_at_call 26; refine (swap_t _ _ _ _).mono ?_; rintro e w' ⟨rfl, rfl⟩)
            go_cut [8] (fun y wx => ∃ (iop : Int) (inar ireg : Bool) (isz idst isrc ioff iimm : Int), y = .int .i64 (partY s k a) ∧ (⟨iop, inar, ireg, isz, idst, isrc, ioff, iimm⟩ : Ins) = partI s k ∧ Blk wx g 57 #[.int .i64 iop, .bool inar, .bool ireg, .int .i64 isz, .int .i64 idst, .int .i64 isrc, .int .i64 ioff, .int .i64 iimm] ∧ Below w.heap.size w wx)
            case first =>
              by_cases hk2 : k < 2
              · have c1 := HI.out.cell 1
                have f1 := HI.out.frozen 1
                have c2 := HI.out.cell 2
                have f2 := HI.out.frozen 2
                have c5 := HI.out.cell 5
                have f5 := HI.out.frozen 5
                have HI2 := Lib.hid (((HI.out.set_ 2 (.bool true)).set_ 5 (.int .i64 3)).set_ 1 (.bool (decide (k = 1))))
                have HT := Lib.hid (((Touch.set_ (g := g) wc 2 (.bool true)).trans (Touch.set_ _ 5 (.int .i64 3))).trans (Touch.set_ _ 1 (.bool (decide (k = 1)))))
                rcases (by omega : k = 0 ∨ k = 1) with rfl | rfl
                all_goals
                  go_wp2_with (go_at_call 27; refine (extend_t _ _ _ _).mono ?_; rintro e w' ⟨rfl, rfl⟩)
                  go_meet
                  case rel => exact ⟨_, _, _, _, _, _, _, _, rfl, rfl, HI2.out, HB.out.trans (HT.out.below HG.out HB.out.size)⟩
              · have hk3 : ¬ (k : Int) < 2 := by omega
                have HK2 := Lib.hid hk2
                clear hk2
                go_wp2_with fail
                go_meet
                case rel =>
                  have e1 : (decide ((2 : Int) < (k : Int))) = decide (2 < k) := by rw [decide_eq_decide]; omega
                  refine ⟨15 + k, false, false, s, 0, 0, 0, 0, ?_, by unfold partI; rw [if_neg HK2.out], by have := HI.out; rw [show kop k = 15 + k by unfold kop; rw [if_neg HK2.out]] at this; exact this, HB.out⟩
                  unfold partY
                  rw [if_neg HK2.out, ← e1]
            case rest =>
              clear HI HB
              obtain ⟨iop, inar, ireg, isz, idst, isrc, ioff, iimm, rfl, hi, hI, hB⟩ := hcut
              have HEQ := Lib.hid hi
              have HI := Lib.hid hI
              have HB := Lib.hid hB
              clear hi hI hB
              go_upto_region 14 with (fail)
              go_cut [9] (fun v wx => v = .bool (partBad s k) ∧ Blk wx g 57 #[.int .i64 iop, .bool inar, .bool ireg, .int .i64 isz, .int .i64 idst, .int .i64 isrc, .int .i64 ioff, .int .i64 iimm] ∧ Below w.heap.size w wx)
              case first =>
                rcases HS.out with rfl | rfl | rfl | rfl <;> rcases four4 HK.out with rfl | rfl | rfl | rfl | rfl
                all_goals
                  go_wp2_with fail
                  go_meet
                  case rel => exact ⟨rfl, HI.out, HB.out⟩
              case rest =>
                clear HI HB
                obtain ⟨rfl, hI, hB⟩ := hcut
                have HI := Lib.hid hI
                have HB := Lib.hid hB
                clear hI hB
                go_upto_if 69 with (fail)
                go_cut [10] (fun v wx => v = .int .i64 (partX k a b) ∧ Blk wx g 57 #[.int .i64 iop, .bool inar, .bool ireg, .int .i64 isz, .int .i64 idst, .int .i64 isrc, .int .i64 ioff, .int .i64 iimm] ∧ Below w.heap.size w wx)
                case first =>
                  by_cases hk2 : k < 2
                  · have HP := Lib.hid (show partX k a b = b by unfold partX; rw [if_pos hk2])
                    have hk3 : ¬ (2 : Int) ≤ k := by omega
                    clear hk2
                    go_wp2_with fail
                    go_meet
                    case rel => exact ⟨by rw [HP.out], HI.out, HB.out⟩
                  · have HP := Lib.hid (show partX k a b = a by unfold partX; rw [if_neg hk2])
                    have hk3 : (2 : Int) ≤ k := by omega
                    clear hk2
                    go_wp2_with fail
                    go_meet
                    case rel => exact ⟨by rw [HP.out], HI.out, HB.out⟩
                case rest =>
                  clear HI HB
                  obtain ⟨rfl, hI, hB⟩ := hcut
                  obtain ⟨E, R, h1, h0, hRUN⟩ := runs_part s k HS.out HK.out (partX k a b) a (fun h => by unfold partX; rw [if_neg h])
                  rw [← HEQ.out] at hRUN
                  have HRUN := Lib.hid hRUN
                  have HE := Lib.hid h1
                  have HE0 := Lib.hid h0
                  have HI := Lib.hid hI
                  have HB1 := Lib.hid hB
                  clear hI hB h1 h0 hRUN HEQ HG
                  generalize partX k a b = xx at *
                  generalize partY s k a = y at *
                  generalize partBad s k = bad at *
                  go_upto_region 18 with (fail)
                  generalize wc = w1 at *
                  refine Inv.wp_region_inv [11, 12, 71, 72, 73, 74, 75, 76, 77, 78, 79, 80, 81] (PartsR w1 xx a E R iop inar ireg isz idst isrc ioff iimm) (by kernel_rfl) (by kernel_rfl) [0, 1, 2, 3, 4, 5, 6, 7, 8, 9, 10, 11, 12, 13] (by kernel_rfl) ?_ ?_ ?_
                  · exact ⟨bdrw (Below.refl _ _), fun h => h.elim, fun h => h.elim, fun h => h.elim, fun h => h.elim, fun h => h.elim, fun h => h.elim, fun h => h.elim, fun h => h.elim, fun h => h.elim, fun h => h.elim, fun h => h.elim, fun h => h.elim, SlotP.no⟩
                  · refine Inv.AllInv.cons ({ dst := some 72, op := Op.move (Operand.tmp 10), type := 3, pos := "outright.go:193", after := #[], guard := none }) rfl rfl [] (by kernel_rfl) ?_ ?_
                    · intro Q2 u X wv hR hu hd K hK
                      obtain ⟨q0, q1, q2, q3, q4, q5, q6, q7, q8, q9, q10, q11, q12, q13⟩ := hR
                      refine ⟨?_⟩
                      simp only [Inv.puts, Act.put, List.setIfInBounds_toArray, List.set_cons_zero, List.set_cons_succ] at hK
                      simp only [Inv.puts, Act.put, List.setIfInBounds_toArray, List.set_cons_zero, List.set_cons_succ]
                      go_simp
                      refine hK.out (Inv.upd X 72 (.int .i64 xx)) _ ?_
                      exact ⟨q0, fun _ => rfl, fun h => q2 (h.resolve_left (by decide)), fun h => q3 (h.resolve_left (by decide)), fun h => q4 (h.resolve_left (by decide)), fun h => q5 (h.resolve_left (by decide)), fun h => q6 (h.resolve_left (by decide)), fun h => by obtain ⟨b, e1, e2⟩ := q7 (h.resolve_left (by decide)); exact ⟨b, e1, e2⟩, fun h => q8 (h.resolve_left (by decide)), fun h => q9 (h.resolve_left (by decide)), fun h => q10 (h.resolve_left (by decide)), fun h => q11 (h.resolve_left (by decide)), fun h => q12 (h.resolve_left (by decide)), (q13.step (by decide) (by decide))⟩
                    refine Inv.AllInv.cons ({ dst := some 73, op := Op.call { callee := Callee.value (Operand.func 25), args := #[Operand.const (Value.int IntKind.i64 0), Operand.tmp 72], argTypes := #[3, 3] }, type := 57, pos := "outright.go:193", after := #[{ on := 0, ground := Ground.data }], guard := none }) rfl rfl [0] (by kernel_rfl) ?_ ?_
                    · intro Q2 u X wv hR hu hd K hK
                      obtain ⟨q0, q1, q2, q3, q4, q5, q6, q7, q8, q9, q10, q11, q12, q13⟩ := hR
                      have e1 := q1 hd.1
                      refine ⟨?_⟩
                      simp only [Inv.puts, Act.put, List.setIfInBounds_toArray, List.set_cons_zero, List.set_cons_succ] at hK
                      simp only [Inv.puts, Act.put, List.setIfInBounds_toArray, List.set_cons_zero, List.set_cons_succ, e1]
                      go_simp
                      go_at_call 25
                      refine (wide_v _ 0 xx).mono ?_
                      rintro e w2 ⟨rfl, hB⟩
                      refine hK.out (Inv.upd (Inv.upd X 72 (.int .i64 xx)) 73 (.agg #[.int .i64 20, .bool false, .bool false, .int .i64 0, .int .i64 0, .int .i64 0, .int .i64 0, .int .i64 xx])) _ ?_
                      rw [Inv.upd_same e1]
                      exact ⟨q0.trans (hB.mono q0.size), fun h => q1 (h.resolve_left (by decide)), fun _ => rfl, fun h => q3 (h.resolve_left (by decide)), fun h => q4 (h.resolve_left (by decide)), fun h => q5 (h.resolve_left (by decide)), fun h => q6 (h.resolve_left (by decide)), fun h => by obtain ⟨b, e1, e2⟩ := q7 (h.resolve_left (by decide)); exact ⟨b, e1, e2.up hB⟩, fun h => q8 (h.resolve_left (by decide)), fun h => q9 (h.resolve_left (by decide)), fun h => q10 (h.resolve_left (by decide)), fun h => q11 (h.resolve_left (by decide)), fun h => q12 (h.resolve_left (by decide)), (q13.step (by decide) (by decide)).up hB⟩
                    refine Inv.AllInv.cons ({ dst := some 74, op := Op.move (Operand.tmp 0), type := 3, pos := "outright.go:193", after := #[], guard := none }) rfl rfl [] (by kernel_rfl) ?_ ?_
                    · intro Q2 u X wv hR hu hd K hK
                      obtain ⟨q0, q1, q2, q3, q4, q5, q6, q7, q8, q9, q10, q11, q12, q13⟩ := hR
                      refine ⟨?_⟩
                      simp only [Inv.puts, Act.put, List.setIfInBounds_toArray, List.set_cons_zero, List.set_cons_succ] at hK
                      simp only [Inv.puts, Act.put, List.setIfInBounds_toArray, List.set_cons_zero, List.set_cons_succ]
                      go_simp
                      refine hK.out (Inv.upd X 74 (.int .i64 a)) _ ?_
                      exact ⟨q0, fun h => q1 (h.resolve_left (by decide)), fun h => q2 (h.resolve_left (by decide)), fun _ => rfl, fun h => q4 (h.resolve_left (by decide)), fun h => q5 (h.resolve_left (by decide)), fun h => q6 (h.resolve_left (by decide)), fun h => by obtain ⟨b, e1, e2⟩ := q7 (h.resolve_left (by decide)); exact ⟨b, e1, e2⟩, fun h => q8 (h.resolve_left (by decide)), fun h => q9 (h.resolve_left (by decide)), fun h => q10 (h.resolve_left (by decide)), fun h => q11 (h.resolve_left (by decide)), fun h => q12 (h.resolve_left (by decide)), (q13.step (by decide) (by decide))⟩
                    refine Inv.AllInv.cons ({ dst := some 75, op := Op.call { callee := Callee.value (Operand.func 25), args := #[Operand.const (Value.int IntKind.i64 3), Operand.tmp 74], argTypes := #[3, 3] }, type := 57, pos := "outright.go:193", after := #[{ on := 2, ground := Ground.data }, { on := 1, ground := Ground.chain }], guard := none }) rfl rfl [2, 1] (by kernel_rfl) ?_ ?_
                    · intro Q2 u X wv hR hu hd K hK
                      obtain ⟨q0, q1, q2, q3, q4, q5, q6, q7, q8, q9, q10, q11, q12, q13⟩ := hR
                      have e3 := q3 hd.1
                      refine ⟨?_⟩
                      simp only [Inv.puts, Act.put, List.setIfInBounds_toArray, List.set_cons_zero, List.set_cons_succ] at hK
                      simp only [Inv.puts, Act.put, List.setIfInBounds_toArray, List.set_cons_zero, List.set_cons_succ, e3]
                      go_simp
                      go_at_call 25
                      refine (wide_v _ 3 a).mono ?_
                      rintro e w2 ⟨rfl, hB⟩
                      refine hK.out (Inv.upd (Inv.upd X 74 (.int .i64 a)) 75 (.agg #[.int .i64 20, .bool false, .bool false, .int .i64 0, .int .i64 3, .int .i64 0, .int .i64 0, .int .i64 a])) _ ?_
                      rw [Inv.upd_same e3]
                      exact ⟨q0.trans (hB.mono q0.size), fun h => q1 (h.resolve_left (by decide)), fun h => q2 (h.resolve_left (by decide)), fun h => q3 (h.resolve_left (by decide)), fun _ => rfl, fun h => q5 (h.resolve_left (by decide)), fun h => q6 (h.resolve_left (by decide)), fun h => by obtain ⟨b, e1, e2⟩ := q7 (h.resolve_left (by decide)); exact ⟨b, e1, e2.up hB⟩, fun h => q8 (h.resolve_left (by decide)), fun h => q9 (h.resolve_left (by decide)), fun h => q10 (h.resolve_left (by decide)), fun h => q11 (h.resolve_left (by decide)), fun h => q12 (h.resolve_left (by decide)), (q13.step (by decide) (by decide)).up hB⟩
                    refine Inv.AllInv.cons ({ dst := some 76, op := Op.load 57 (Operand.tmp 7), type := 57, pos := "outright.go:193", after := #[], guard := none }) rfl rfl [] (by kernel_rfl) ?_ ?_
                    · intro Q2 u X wv hR hu hd K hK
                      obtain ⟨q0, q1, q2, q3, q4, q5, q6, q7, q8, q9, q10, q11, q12, q13⟩ := hR
                      obtain ⟨c0, c1, c2, c3, c4, c5, c6, c7⟩ := (HI.out.up q0).eight
                      refine ⟨?_⟩
                      simp only [Inv.puts, Act.put, List.setIfInBounds_toArray, List.set_cons_zero, List.set_cons_succ] at hK
                      simp only [Inv.puts, Act.put, List.setIfInBounds_toArray, List.set_cons_zero, List.set_cons_succ]
                      go_simp
                      refine hK.out (Inv.upd X 76 (.agg #[.int .i64 iop, .bool inar, .bool ireg, .int .i64 isz, .int .i64 idst, .int .i64 isrc, .int .i64 ioff, .int .i64 iimm])) _ ?_
                      exact ⟨q0, fun h => q1 (h.resolve_left (by decide)), fun h => q2 (h.resolve_left (by decide)), fun h => q3 (h.resolve_left (by decide)), fun h => q4 (h.resolve_left (by decide)), fun _ => rfl, fun h => q6 (h.resolve_left (by decide)), fun h => by obtain ⟨b, e1, e2⟩ := q7 (h.resolve_left (by decide)); exact ⟨b, e1, e2⟩, fun h => q8 (h.resolve_left (by decide)), fun h => q9 (h.resolve_left (by decide)), fun h => q10 (h.resolve_left (by decide)), fun h => q11 (h.resolve_left (by decide)), fun h => q12 (h.resolve_left (by decide)), (q13.step (by decide) (by decide))⟩
                    refine Inv.AllInv.cons ({ dst := some 77, op := Op.build 57 #[(0, Operand.const (Value.int IntKind.i64 39))], type := 57, pos := "outright.go:193", after := #[], guard := none }) rfl rfl [] (by kernel_rfl) ?_ ?_
                    · intro Q2 u X wv hR hu hd K hK
                      obtain ⟨q0, q1, q2, q3, q4, q5, q6, q7, q8, q9, q10, q11, q12, q13⟩ := hR
                      refine ⟨?_⟩
                      simp only [Inv.puts, Act.put, List.setIfInBounds_toArray, List.set_cons_zero, List.set_cons_succ] at hK
                      simp only [Inv.puts, Act.put, List.setIfInBounds_toArray, List.set_cons_zero, List.set_cons_succ]
                      go_simp
                      refine hK.out (Inv.upd X 77 (.agg #[.int .i64 39, .bool false, .bool false, .int .i64 0, .int .i64 0, .int .i64 0, .int .i64 0, .int .i64 0])) _ ?_
                      exact ⟨q0, fun h => q1 (h.resolve_left (by decide)), fun h => q2 (h.resolve_left (by decide)), fun h => q3 (h.resolve_left (by decide)), fun h => q4 (h.resolve_left (by decide)), fun h => q5 (h.resolve_left (by decide)), fun _ => rfl, fun h => by obtain ⟨b, e1, e2⟩ := q7 (h.resolve_left (by decide)); exact ⟨b, e1, e2⟩, fun h => q8 (h.resolve_left (by decide)), fun h => q9 (h.resolve_left (by decide)), fun h => q10 (h.resolve_left (by decide)), fun h => q11 (h.resolve_left (by decide)), fun h => q12 (h.resolve_left (by decide)), (q13.step (by decide) (by decide))⟩
                    refine Inv.AllInv.cons ({ dst := some 78, op := Op.buildSlice 24 4 #[(0, Operand.tmp 73), (1, Operand.tmp 75), (2, Operand.tmp 76), (3, Operand.tmp 77)], type := 24, pos := "outright.go:193", after := #[{ on := 1, ground := Ground.data }, { on := 3, ground := Ground.data }, { on := 4, ground := Ground.data }, { on := 5, ground := Ground.data }], guard := none }) rfl rfl [1, 3, 4, 5] (by kernel_rfl) ?_ ?_
                    · intro Q2 u X wv hR hu hd K hK
                      obtain ⟨q0, q1, q2, q3, q4, q5, q6, q7, q8, q9, q10, q11, q12, q13⟩ := hR
                      have e2 := q2 hd.1
                      have e4 := q4 hd.2.1
                      have e5 := q5 hd.2.2.1
                      have e6 := q6 hd.2.2.2.1
                      refine ⟨?_⟩
                      simp only [Inv.puts, Act.put, List.setIfInBounds_toArray, List.set_cons_zero, List.set_cons_succ] at hK
                      simp only [Inv.puts, Act.put, List.setIfInBounds_toArray, List.set_cons_zero, List.set_cons_succ, e2, e4, e5, e6]
                      go_simp
                      refine hK.out (Inv.upd (Inv.upd (Inv.upd (Inv.upd (Inv.upd X 73 (.agg #[.int .i64 20, .bool false, .bool false, .int .i64 0, .int .i64 0, .int .i64 0, .int .i64 0, .int .i64 xx])) 75 (.agg #[.int .i64 20, .bool false, .bool false, .int .i64 0, .int .i64 3, .int .i64 0, .int .i64 0, .int .i64 a])) 76 (.agg #[.int .i64 iop, .bool inar, .bool ireg, .int .i64 isz, .int .i64 idst, .int .i64 isrc, .int .i64 ioff, .int .i64 iimm])) 77 (.agg #[.int .i64 39, .bool false, .bool false, .int .i64 0, .int .i64 0, .int .i64 0, .int .i64 0, .int .i64 0])) 78 (.slice (some ⟨wv.heap.size, 0, none⟩) 4 4)) _ ?_
                      rw [Inv.upd_same e2, Inv.upd_same e4, Inv.upd_same e5, Inv.upd_same e6]
                      exact ⟨q0.alloc q0.size _, fun h => q1 (h.resolve_left (by decide)), fun h => q2 (h.resolve_left (by decide)), fun h => q3 (h.resolve_left (by decide)), fun h => q4 (h.resolve_left (by decide)), fun h => q5 (h.resolve_left (by decide)), fun h => q6 (h.resolve_left (by decide)), fun _ => ⟨wv.heap.size, rfl, Blk.new _ _ _⟩, fun h => q8 (h.resolve_left (by decide)), fun h => q9 (h.resolve_left (by decide)), fun h => q10 (h.resolve_left (by decide)), fun h => q11 (h.resolve_left (by decide)), fun h => q12 (h.resolve_left (by decide)), (q13.step (by decide) (by decide)).up (box1 _ _)⟩
                    refine Inv.AllInv.cons ({ dst := some 79, op := Op.call { callee := Callee.value (Operand.func 24), args := #[Operand.tmp 78, Operand.const (Value.slice none 0 0)], argTypes := #[24, 22] }, type := 40, pos := "outright.go:193", after := #[{ on := 6, ground := Ground.data }, { on := 3, ground := Ground.chain }], guard := none }) rfl rfl [6, 3] (by kernel_rfl) ?_ ?_
                    · intro Q2 u X wv hR hu hd K hK
                      obtain ⟨q0, q1, q2, q3, q4, q5, q6, q7, q8, q9, q10, q11, q12, q13⟩ := hR
                      obtain ⟨b, e7, hblk⟩ := q7 hd.1
                      have HRU := HRUN.out _ b 4 (blk_code hblk rfl)
                      refine ⟨?_⟩
                      simp only [Inv.puts, Act.put, List.setIfInBounds_toArray, List.set_cons_zero, List.set_cons_succ] at hK
                      simp only [Inv.puts, Act.put, List.setIfInBounds_toArray, List.set_cons_zero, List.set_cons_succ, e7]
                      go_simp
                      go_at_call 24
                      refine HRU.mono ?_
                      rintro e w2 ⟨⟨A1, n1, c1, A2, n2, c2, rfl⟩, hB⟩
                      refine hK.out (Inv.upd (Inv.upd X 78 (.slice (some ⟨b, 0, none⟩) 4 4)) 79 (.tuple #[.agg #[.int .i64 R, .slice A1 n1 c1, .slice none 0 0, .slice A2 n2 c2], .int .i64 E])) _ ?_
                      rw [Inv.upd_same e7]
                      exact ⟨q0.trans (hB.mono q0.size), fun h => q1 (h.resolve_left (by decide)), fun h => q2 (h.resolve_left (by decide)), fun h => q3 (h.resolve_left (by decide)), fun h => q4 (h.resolve_left (by decide)), fun h => q5 (h.resolve_left (by decide)), fun h => q6 (h.resolve_left (by decide)), fun h => by obtain ⟨b, e1, e2⟩ := q7 (h.resolve_left (by decide)); exact ⟨b, e1, e2.up hB⟩, fun _ => ⟨_, _, _, _, _, _, rfl⟩, fun h => q9 (h.resolve_left (by decide)), fun h => q10 (h.resolve_left (by decide)), fun h => q11 (h.resolve_left (by decide)), fun h => q12 (h.resolve_left (by decide)), (q13.step (by decide) (by decide)).up hB⟩
                    refine Inv.AllInv.cons ({ dst := some 71, op := Op.move (Operand.tmp 79), type := 40, pos := "outright.go:193", after := #[{ on := 7, ground := Ground.data }], guard := none }) rfl rfl [7] (by kernel_rfl) ?_ ?_
                    · intro Q2 u X wv hR hu hd K hK
                      obtain ⟨q0, q1, q2, q3, q4, q5, q6, q7, q8, q9, q10, q11, q12, q13⟩ := hR
                      obtain ⟨A1, n1, c1, A2, n2, c2, e8⟩ := q8 hd.1
                      refine ⟨?_⟩
                      simp only [Inv.puts, Act.put, List.setIfInBounds_toArray, List.set_cons_zero, List.set_cons_succ] at hK
                      simp only [Inv.puts, Act.put, List.setIfInBounds_toArray, List.set_cons_zero, List.set_cons_succ, e8]
                      go_simp
                      refine hK.out (Inv.upd (Inv.upd X 79 (.tuple #[.agg #[.int .i64 R, .slice A1 n1 c1, .slice none 0 0, .slice A2 n2 c2], .int .i64 E])) 71 (.tuple #[.agg #[.int .i64 R, .slice A1 n1 c1, .slice none 0 0, .slice A2 n2 c2], .int .i64 E])) _ ?_
                      rw [Inv.upd_same e8]
                      exact ⟨q0, fun h => q1 (h.resolve_left (by decide)), fun h => q2 (h.resolve_left (by decide)), fun h => q3 (h.resolve_left (by decide)), fun h => q4 (h.resolve_left (by decide)), fun h => q5 (h.resolve_left (by decide)), fun h => q6 (h.resolve_left (by decide)), fun h => by obtain ⟨b, e1, e2⟩ := q7 (h.resolve_left (by decide)); exact ⟨b, e1, e2⟩, fun h => q8 (h.resolve_left (by decide)), fun _ => ⟨_, _, _, _, _, _, rfl⟩, fun h => q10 (h.resolve_left (by decide)), fun h => q11 (h.resolve_left (by decide)), fun h => q12 (h.resolve_left (by decide)), (q13.step (by decide) (by decide))⟩
                    refine Inv.AllInv.cons ({ dst := some 80, op := Op.extract (Operand.tmp 71) 0, type := 39, pos := "outright.go:193", after := #[{ on := 8, ground := Ground.data }], guard := none }) rfl rfl [8] (by kernel_rfl) ?_ ?_
                    · intro Q2 u X wv hR hu hd K hK
                      obtain ⟨q0, q1, q2, q3, q4, q5, q6, q7, q8, q9, q10, q11, q12, q13⟩ := hR
                      obtain ⟨A1, n1, c1, A2, n2, c2, e9⟩ := q9 hd.1
                      refine ⟨?_⟩
                      simp only [Inv.puts, Act.put, List.setIfInBounds_toArray, List.set_cons_zero, List.set_cons_succ] at hK
                      simp only [Inv.puts, Act.put, List.setIfInBounds_toArray, List.set_cons_zero, List.set_cons_succ, e9]
                      go_simp
                      refine hK.out (Inv.upd (Inv.upd X 71 (.tuple #[.agg #[.int .i64 R, .slice A1 n1 c1, .slice none 0 0, .slice A2 n2 c2], .int .i64 E])) 80 (.agg #[.int .i64 R, .slice A1 n1 c1, .slice none 0 0, .slice A2 n2 c2])) _ ?_
                      rw [Inv.upd_same e9]
                      exact ⟨q0, fun h => q1 (h.resolve_left (by decide)), fun h => q2 (h.resolve_left (by decide)), fun h => q3 (h.resolve_left (by decide)), fun h => q4 (h.resolve_left (by decide)), fun h => q5 (h.resolve_left (by decide)), fun h => q6 (h.resolve_left (by decide)), fun h => by obtain ⟨b, e1, e2⟩ := q7 (h.resolve_left (by decide)); exact ⟨b, e1, e2⟩, fun h => q8 (h.resolve_left (by decide)), fun h => q9 (h.resolve_left (by decide)), fun _ => ⟨_, _, _, _, _, _, rfl⟩, fun h => q11 (h.resolve_left (by decide)), fun h => q12 (h.resolve_left (by decide)), (q13.step (by decide) (by decide))⟩
                    refine Inv.AllInv.cons ({ dst := some 81, op := Op.extract (Operand.tmp 71) 1, type := 32, pos := "outright.go:193", after := #[{ on := 8, ground := Ground.data }, { on := 12, ground := Ground.gcOnly Departure.lateStores }], guard := none }) rfl rfl [8] (by kernel_rfl) ?_ ?_
                    · intro Q2 u X wv hR hu hd K hK
                      obtain ⟨q0, q1, q2, q3, q4, q5, q6, q7, q8, q9, q10, q11, q12, q13⟩ := hR
                      obtain ⟨A1, n1, c1, A2, n2, c2, e9⟩ := q9 hd.1
                      refine ⟨?_⟩
                      simp only [Inv.puts, Act.put, List.setIfInBounds_toArray, List.set_cons_zero, List.set_cons_succ] at hK
                      simp only [Inv.puts, Act.put, List.setIfInBounds_toArray, List.set_cons_zero, List.set_cons_succ, e9]
                      go_simp
                      refine hK.out (Inv.upd (Inv.upd X 71 (.tuple #[.agg #[.int .i64 R, .slice A1 n1 c1, .slice none 0 0, .slice A2 n2 c2], .int .i64 E])) 81 (.int .i64 E)) _ ?_
                      rw [Inv.upd_same e9]
                      exact ⟨q0, fun h => q1 (h.resolve_left (by decide)), fun h => q2 (h.resolve_left (by decide)), fun h => q3 (h.resolve_left (by decide)), fun h => q4 (h.resolve_left (by decide)), fun h => q5 (h.resolve_left (by decide)), fun h => q6 (h.resolve_left (by decide)), fun h => by obtain ⟨b, e1, e2⟩ := q7 (h.resolve_left (by decide)); exact ⟨b, e1, e2⟩, fun h => q8 (h.resolve_left (by decide)), fun h => q9 (h.resolve_left (by decide)), fun h => q10 (h.resolve_left (by decide)), fun _ => rfl, fun h => q12 (h.resolve_left (by decide)), (q13.step (by decide) (by decide))⟩
                    refine Inv.AllInv.cons ({ dst := some 11, op := Op.alloc 39, type := 0, pos := "outright.go:193", after := #[], guard := none }) rfl rfl [] (by kernel_rfl) ?_ ?_
                    · intro Q2 u X wv hR hu hd K hK
                      obtain ⟨q0, q1, q2, q3, q4, q5, q6, q7, q8, q9, q10, q11, q12, q13⟩ := hR
                      refine ⟨?_⟩
                      simp only [Inv.puts, Act.put, List.setIfInBounds_toArray, List.set_cons_zero, List.set_cons_succ] at hK
                      simp only [Inv.puts, Act.put, List.setIfInBounds_toArray, List.set_cons_zero, List.set_cons_succ]
                      go_simp
                      refine hK.out (Inv.upd X 11 (.pointer (some ⟨wv.heap.size, 0, none⟩))) _ ?_
                      exact ⟨q0.alloc q0.size _, fun h => q1 (h.resolve_left (by decide)), fun h => q2 (h.resolve_left (by decide)), fun h => q3 (h.resolve_left (by decide)), fun h => q4 (h.resolve_left (by decide)), fun h => q5 (h.resolve_left (by decide)), fun h => q6 (h.resolve_left (by decide)), fun h => by obtain ⟨b, e1, e2⟩ := q7 (h.resolve_left (by decide)); exact ⟨b, e1, e2.up (box1 _ _)⟩, fun h => q8 (h.resolve_left (by decide)), fun h => q9 (h.resolve_left (by decide)), fun h => q10 (h.resolve_left (by decide)), fun h => q11 (h.resolve_left (by decide)), fun h => q12 (h.resolve_left (by decide)), q13.made hu (by decide) q0.size rfl⟩
                    refine Inv.AllInv.cons ({ dst := none, op := Op.store 39 (Operand.tmp 11) (Operand.tmp 80), type := 0, pos := "outright.go:193", after := #[{ on := 11, ground := Ground.data }, { on := 9, ground := Ground.data }, { on := 7, ground := Ground.chain }, { on := 0, ground := Ground.phase }, { on := 1, ground := Ground.phase }, { on := 2, ground := Ground.phase }, { on := 3, ground := Ground.phase }, { on := 4, ground := Ground.phase }, { on := 5, ground := Ground.phase }, { on := 6, ground := Ground.phase }, { on := 7, ground := Ground.phase }, { on := 8, ground := Ground.phase }, { on := 9, ground := Ground.phase }, { on := 10, ground := Ground.textOnly Departure.lateStores }, { on := 11, ground := Ground.phase }], guard := none }) rfl rfl [11, 9, 7, 0, 1, 2, 3, 4, 5, 6, 7, 8, 9, 11] (by kernel_rfl) ?_ ?_
                    · intro Q2 u X wv hR hu hd K hK
                      obtain ⟨q0, q1, q2, q3, q4, q5, q6, q7, q8, q9, q10, q11, q12, q13⟩ := hR
                      obtain ⟨A1, n1, c1, A2, n2, c2, e10⟩ := q10 hd.2.1
                      have ha := hd.1
                      obtain ⟨g, zs, eX, hg, hz, hBz, -⟩ := q13.2 ha
                      obtain ⟨z0, z1, z2, z3, rfl⟩ := arr4_of hz
                      obtain ⟨⟨b0, b1, b2, b3⟩, f0, f1, f2, f3⟩ := hBz.four
                      have hBx := hBz.set4 (.int .i64 R) (.slice A1 n1 c1) (.slice none 0 0) (.slice A2 n2 c2)
                      have hT := Touch.set4 (g := g) wv 0 1 2 3 (.int .i64 R) (.slice A1 n1 c1) (.slice none 0 0) (.slice A2 n2 c2)
                      refine ⟨?_⟩
                      simp only [Inv.puts, Act.put, List.setIfInBounds_toArray, List.set_cons_zero, List.set_cons_succ] at hK
                      simp only [Inv.puts, Act.put, List.setIfInBounds_toArray, List.set_cons_zero, List.set_cons_succ, e10, eX]
                      go_simp
                      refine hK.out (Inv.upd (Inv.upd X 80 (.agg #[.int .i64 R, .slice A1 n1 c1, .slice none 0 0, .slice A2 n2 c2])) 11 (.pointer (some ⟨g, 0, none⟩))) _ ?_
                      rw [Inv.upd_same e10, Inv.upd_same eX]
                      exact ⟨below_touch q0 hT hg q0.size, fun h => q1 (h.resolve_left (by decide)), fun h => q2 (h.resolve_left (by decide)), fun h => q3 (h.resolve_left (by decide)), fun h => q4 (h.resolve_left (by decide)), fun h => q5 (h.resolve_left (by decide)), fun h => q6 (h.resolve_left (by decide)), fun h => by obtain ⟨b, e1, e2⟩ := q7 (h.resolve_left (by decide)); exact ⟨b, e1, e2.touch hT (Blk.ne_ e2 hBz (by decide))⟩, fun h => q8 (h.resolve_left (by decide)), fun h => q9 (h.resolve_left (by decide)), fun h => q10 (h.resolve_left (by decide)), fun h => q11 (h.resolve_left (by decide)), fun h => q12 (h.resolve_left (by decide)), by rw [show _ = _ from eX]; exact SlotP.stored hg ha hBx rfl ⟨_, _, _, _, _, _, rfl⟩⟩
                    refine Inv.AllInv.cons ({ dst := some 12, op := Op.assign (Operand.tmp 81), type := 32, pos := "outright.go:193", after := #[{ on := 10, ground := Ground.data }, { on := 12, ground := Ground.chain }, { on := 0, ground := Ground.phase }, { on := 1, ground := Ground.phase }, { on := 2, ground := Ground.phase }, { on := 3, ground := Ground.phase }, { on := 4, ground := Ground.phase }, { on := 5, ground := Ground.phase }, { on := 6, ground := Ground.phase }, { on := 7, ground := Ground.phase }, { on := 8, ground := Ground.phase }, { on := 9, ground := Ground.phase }, { on := 10, ground := Ground.phase }, { on := 11, ground := Ground.phase }, { on := 12, ground := Ground.phase }], guard := none }) rfl rfl [10, 12, 0, 1, 2, 3, 4, 5, 6, 7, 8, 9, 10, 11, 12] (by kernel_rfl) ?_ ?_
                    · intro Q2 u X wv hR hu hd K hK
                      obtain ⟨q0, q1, q2, q3, q4, q5, q6, q7, q8, q9, q10, q11, q12, q13⟩ := hR
                      have e11 := q11 hd.1
                      refine ⟨?_⟩
                      simp only [Inv.puts, Act.put, List.setIfInBounds_toArray, List.set_cons_zero, List.set_cons_succ] at hK
                      simp only [Inv.puts, Act.put, List.setIfInBounds_toArray, List.set_cons_zero, List.set_cons_succ, e11]
                      go_simp
                      refine hK.out (Inv.upd (Inv.upd X 81 (.int .i64 E)) 12 (.int .i64 E)) _ ?_
                      rw [Inv.upd_same e11]
                      exact ⟨q0, fun h => q1 (h.resolve_left (by decide)), fun h => q2 (h.resolve_left (by decide)), fun h => q3 (h.resolve_left (by decide)), fun h => q4 (h.resolve_left (by decide)), fun h => q5 (h.resolve_left (by decide)), fun h => q6 (h.resolve_left (by decide)), fun h => by obtain ⟨b, e1, e2⟩ := q7 (h.resolve_left (by decide)); exact ⟨b, e1, e2⟩, fun h => q8 (h.resolve_left (by decide)), fun h => q9 (h.resolve_left (by decide)), fun h => q10 (h.resolve_left (by decide)), fun h => q11 (h.resolve_left (by decide)), fun _ => rfl, (q13.step (by decide) (by decide))⟩
                    exact Inv.AllInv.nil
                  · intro u X wv hd hR
                    obtain ⟨q0, q1, q2, q3, q4, q5, q6, q7, q8, q9, q10, q11, q12, q13⟩ := hR
                    obtain ⟨u0, u1, u2, u3, u4, u5, u6, u7, u8, u9, u10, u11, u12, u13, -⟩ := hd
                    obtain ⟨b_7, ex7, -⟩ := q7 u6
                    obtain ⟨A1_8, n1_8, c1_8, A2_8, n2_8, c2_8, ex8⟩ := q8 u7
                    obtain ⟨A1_9, n1_9, c1_9, A2_9, n2_9, c2_9, ex9⟩ := q9 u8
                    obtain ⟨A1_10, n1_10, c1_10, A2_10, n2_10, c2_10, ex10⟩ := q10 u9
                    obtain ⟨p0, _, ep0, hp0, hP0, A1_13, n1_13, c1_13, A2_13, n2_13, c2_13, rfl⟩ := q13.full u12
                    simp only [Inv.puts, Act.put, List.setIfInBounds_toArray, List.set_cons_zero, List.set_cons_succ, q1 u0, q2 u1, q3 u2, q4 u3, q5 u4, q6 u5, ex7, ex8, ex9, ex10, q11 u10, q12 u13, ep0]
                    have HQ0 := Lib.hid q0
                    clear q0 q1 q2 q3 q4 q5 q6 q7 q8 q9 q10 q11 q12 q13
                    clear ep0 ex7 ex8 ex9 ex10 u0 u1 u2 u3 u4 u5 u6 u7 u8 u9 u10 u11 u12 u13
                    obtain ⟨⟨o0, o1, o2, o3⟩, -⟩ := hP0.four
                    have HB2 := Lib.hid (HB1.out.trans (HQ0.out.mono HB1.out.size))
                    clear HQ0 hP0 hp0 HB1 HI HRUN
                    cases bad
                    · obtain ⟨rfl, rfl⟩ := HE0.out rfl
                      clear HE HE0
                      have HK3 := HK.out
                      go_wp2_with fail
                      go_roundw
                      case rel => exact ⟨k + 1, by omega, by go_num, HB2.out⟩
                      case measure => simp [intOf]; omega
                    · obtain ⟨rfl, rfl⟩ := HE.out rfl
                      clear HE HE0
                      have HK3 := HK.out
                      go_wp2_with fail
                      go_roundw
                      case rel => exact ⟨k + 1, by omega, by go_num, HB2.out⟩
                      case measure => simp [intOf]; omega
        · have HB := Lib.hid hB
          clear hB
          rcases HS.out with rfl | rfl | rfl | rfl
          · go_wp2_with fail
            go_roundw
            case rel => exact ⟨16, .inl (.inr (.inl rfl)), by go_num, HB.out⟩
            case measure => simp [intOf]
          · go_wp2_with fail
            go_roundw
            case rel => exact ⟨32, .inl (.inr (.inr (.inl rfl))), by go_num, HB.out⟩
            case measure => simp [intOf]
          · go_wp2_with fail
            go_roundw
            case rel => exact ⟨64, .inl (.inr (.inr (.inr rfl))), by go_num, HB.out⟩
            case measure => simp [intOf]
          · go_wp2_with fail
            go_roundw
            case rel => exact ⟨128, .inr rfl, by go_num, HB.out⟩
            case measure => simp [intOf]
    · go_wp2_with fail
      refine (wide_x _ 0 258).mono ?_
      rintro e w1 ⟨rfl, hB1⟩
      have HB1 := Lib.hid (hB.trans (hB1.mono hB.size))
      have HRU := Lib.hid (runs_swap (w1.alloc (.cells #[.int .i64 20, .bool false, .bool false, .int .i64 0, .int .i64 0, .int .i64 0, .int .i64 0, .int .i64 258, .int .i64 18, .bool false, .bool false, .int .i64 16, .int .i64 0, .int .i64 0, .int .i64 0, .int .i64 0, .int .i64 39, .bool false, .bool false, .int .i64 0, .int .i64 0, .int .i64 0, .int .i64 0, .int .i64 0] 57)) ⟨w1.heap.size, 0, none⟩ 3 (blk_code (Blk.new w1 57 #[.int .i64 20, .bool false, .bool false, .int .i64 0, .int .i64 0, .int .i64 0, .int .i64 0, .int .i64 258, .int .i64 18, .bool false, .bool false, .int .i64 16, .int .i64 0, .int .i64 0, .int .i64 0, .int .i64 0, .int .i64 39, .bool false, .bool false, .int .i64 0, .int .i64 0, .int .i64 0, .int .i64 0, .int .i64 0]) rfl))
      clear hB hB1
      go_wp2_with fail
      go_at_call 24
      refine HRU.out.mono ?_
      rintro e w2 ⟨⟨A1, n1, c1, A2, n2, c2, rfl⟩, hB2⟩
      have HB2 := Lib.hid ((HB1.out.alloc HB1.out.size _).trans (hB2.mono (Nat.le_trans HB1.out.size (box1 w1 _).size)))
      clear HB1 hB2
      go_wp2_with fail
      go_ret
      exact ⟨rfl, HB2.out.alloc HB2.out.size _⟩
end Go.Proofs.YthiphnaaljifnaaGreat
