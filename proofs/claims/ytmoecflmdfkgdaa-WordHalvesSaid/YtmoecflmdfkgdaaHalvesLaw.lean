/- WordHalves: the walk of the law. -/
import Derived.Test.YtmoecflmdfkgdaaHalvesMath
import Derived.Test.YtmoecflmdfkgdaaHoldsLaw
import Derived.Deep.QuietTactic
import Derived.BigQuiet
import Derived.Deep.RegionHeld3
namespace Go.Proofs.Ytmoecflmdfkgdaa
open Go.ChangeShapes Go.WideShapes Go.ChangeAt Go.RowKit
open Bits
set_option linter.unusedVariables false

/-- what the law holds of the world: its record's two words, and that nothing before the call has turned -/
theorem keep_s {w0 wr w' : World} {g : Nat} {s0 s1 s2 : Int} (hb : Blk wr g 23 #[.int .i64 s0, .int .i64 s1, .int .i64 s2]) (hB : Below w0.heap.size w0 wr) (h : Below wr.heap.size wr w') :
    w'.cell? ⟨g, 1, none⟩ = some (.int .i64 s1) ∧ w'.cell? ⟨g, 2, none⟩ = some (.int .i64 s2) ∧ Blk w' g 23 #[.int .i64 s0, .int .i64 s1, .int .i64 s2] ∧ Below w0.heap.size w0 w' := by
  have hb' := hb.below h hb.lt
  have q1 := hb'.cell 1
  have q2 := hb'.cell 2
  simp only [List.getElem?_toArray, List.getElem?_cons_zero, List.getElem?_cons_succ] at q1 q2
  exact ⟨q1, q2, hb', hB.trans (h.mono hB.size)⟩
theorem alu_s (op : Int) (n : Bool) (a b : Int) {w0 wr : World} {g : Nat} {s0 s1 s2 : Int} (hb : Blk wr g 23 #[.int .i64 s0, .int .i64 s1, .int .i64 s2]) (hB : Below w0.heap.size w0 wr) :
    Calls Try.prog 33 #[.int .i64 op, .bool n, .int .i64 a, .int .i64 b] wr fun e w' => e = .returned (.tuple #[.int .i64 (aluR op n a b), .int .i64 (aluE op n b)]) ∧
      w'.cell? ⟨g, 1, none⟩ = some (.int .i64 s1) ∧ w'.cell? ⟨g, 2, none⟩ = some (.int .i64 s2) ∧ Blk w' g 23 #[.int .i64 s0, .int .i64 s1, .int .i64 s2] ∧ Below w0.heap.size w0 w' :=
  (alu_any op n a b wr).mono fun _ _ ⟨h1, h2⟩ => ⟨h1, keep_s hb hB h2⟩
theorem of_s (op : Int) (n : Bool) (a b : Int) (h : aluE op n b = 0) {w0 wr : World} {g : Nat} {s0 s1 s2 : Int} (hb : Blk wr g 23 #[.int .i64 s0, .int .i64 s1, .int .i64 s2]) (hB : Below w0.heap.size w0 wr) :
    Calls Try.prog 35 #[.int .i64 op, .bool n, .int .i64 a, .int .i64 b] wr fun e w' => e = .returned (.int .i64 (aluV op n a b)) ∧
      w'.cell? ⟨g, 1, none⟩ = some (.int .i64 s1) ∧ w'.cell? ⟨g, 2, none⟩ = some (.int .i64 s2) ∧ Blk w' g 23 #[.int .i64 s0, .int .i64 s1, .int .i64 s2] ∧ Below w0.heap.size w0 w' :=
  (of_any op n a b h wr).mono fun _ _ ⟨h1, h2⟩ => ⟨h1, keep_s hb hB h2⟩
theorem is_s (op : Int) (n : Bool) (a b want : Int) (h : aluE op n b = 0) (hw : aluV op n a b = want) {w0 wr : World} {g : Nat} {s0 s1 s2 : Int} (hb : Blk wr g 23 #[.int .i64 s0, .int .i64 s1, .int .i64 s2]) (hB : Below w0.heap.size w0 wr) :
    Calls Try.prog 34 #[.int .i64 op, .bool n, .int .i64 a, .int .i64 b, .int .i64 want] wr fun e w' => e = .returned (.bool true) ∧
      w'.cell? ⟨g, 1, none⟩ = some (.int .i64 s1) ∧ w'.cell? ⟨g, 2, none⟩ = some (.int .i64 s2) ∧ Blk w' g 23 #[.int .i64 s0, .int .i64 s1, .int .i64 s2] ∧ Below w0.heap.size w0 w' :=
  (is_any op n a b want h wr).mono fun _ _ ⟨h1, h2⟩ => ⟨by rw [h1, hw, beq_self_eq_true], keep_s hb hB h2⟩
theorem halves_arms (j s1 s2 z : Int) (hz : s2 % 4294967296 = z) (h : 1 ≤ j ∧ j ≤ 15) :
    (((1 ≤ j ∧ j ≤ 3) ∨ (8 ≤ j ∧ j ≤ 10) ∨ (14 ≤ j ∧ j ≤ 15)) ∧ aluE j true s2 = 0 ∧ aluE j false s2 = 0 ∧ aluV j true s1 s2 = aluV j false s1 s2 % 4294967296) ∨
    ((11 ≤ j ∧ j ≤ 13) ∧ aluE j true s2 = 0) ∨ ((4 ≤ j ∧ j ≤ 7) ∧ aluE j true s2 = 0 ∧ (z != 0) = true) ∨ ((4 ≤ j ∧ j ≤ 7) ∧ aluE j true s2 = 84 ∧ (z != 0) = false) := by
  subst hz
  by_cases h1 : (1 ≤ j ∧ j ≤ 3) ∨ (8 ≤ j ∧ j ≤ 10) ∨ (14 ≤ j ∧ j ≤ 15)
  · exact .inl ⟨h1, aluE_nd _ _ h (by omega), aluE_nd _ _ h (by omega), h_whole j s1 s2 h1⟩
  · by_cases h2 : 11 ≤ j ∧ j ≤ 13
    · exact .inr (.inl ⟨h2, aluE_nd _ _ h (by omega)⟩)
    · have h3 : 4 ≤ j ∧ j ≤ 7 := by omega
      by_cases h4 : s2 % 4294967296 = 0
      · exact .inr (.inr (.inr ⟨h3, aluE_zero (by omega) _ _ ⟨h3, (dv_zero j s2 h3).2 h4⟩, by simp [h4]⟩))
      · exact .inr (.inr (.inl ⟨h3, aluE_ok (by omega) _ _ (fun h5 => h4 ((dv_zero j s2 h3).1 h5.2)), by simp [h4]⟩))

set_option maxRecDepth 100000 in
set_option maxHeartbeats 4000000 in
theorem wordHalves_walk (s0 : Int) (r0 : -9223372036854775808 ≤ s0 ∧ s0 ≤ 9223372036854775807) (s1 : Int) (r1 : -9223372036854775808 ≤ s1 ∧ s1 ≤ 9223372036854775807) (s2 : Int) (r2 : -9223372036854775808 ≤ s2 ∧ s2 ≤ 9223372036854775807)
    (hi : Int) (rhi : -9223372036854775808 ≤ hi ∧ hi ≤ 9223372036854775807) (ot : Int) (rot : -9223372036854775808 ≤ ot ∧ ot ≤ 9223372036854775807) (w : World) :
    Calls Try.prog 10 #[.agg #[.int .i64 s0, .int .i64 s1, .int .i64 s2], .int .i64 hi, .int .i64 ot] w fun e w' => e = .returned (.bool true) ∧ Below w.heap.size w w' := by
  clear r0 r1 r2 rhi rot
  have L := fun v w => llow_any v 32 (by decide) w
  rw [show (2 : Int) ^ 32 = 4294967296 by decide +kernel] at L
  have HL := Lib.hid L
  clear L
  go_enter Try.func10, Try.ntmps10
  go_wp2_with fail
  refine (HL.out _ _).mono ?_
  rintro e w' ⟨rfl, rfl⟩
  go_wp2_with fail
  refine (HL.out _ _).mono ?_
  rintro e w' ⟨rfl, rfl⟩
  go_wp2_with fail
  have X := mix_low s1 hi
  have Y := mix_low s2 ot
  obtain ⟨x, ex⟩ : ∃ x, bits BinOp.or IntKind.i64 (s1 % 4294967296) (wrap64 (hi * 4294967296)) = x := ⟨_, rfl⟩
  obtain ⟨y, ey⟩ : ∃ y, bits BinOp.or IntKind.i64 (s2 % 4294967296) (wrap64 (ot * 4294967296)) = y := ⟨_, rfl⟩
  rw [ex] at X ⊢
  rw [ey] at Y ⊢
  clear ex ey
  have CR := Lib.hid (fun op => aluR_c op X Y)
  have CE := Lib.hid (fun op => aluE_c op Y)
  have CH := Lib.hid (fun op => holds_c op X Y)
  have C16 := Lib.hid (ext16_c X)
  have C8 := Lib.hid (ext8_c X.symm)
  clear X Y
  obtain ⟨z, hz⟩ : ∃ z, s2 % 4294967296 = z := ⟨_, rfl⟩
  have HLz := HL.out s2
  rw [hz] at HLz ⊢
  have HZ := Lib.hid hz
  have HHz := Lib.hid HLz
  clear hz HLz
  have hb0 : Blk (w.alloc (Obj.cells #[Value.int IntKind.i64 s0, Value.int IntKind.i64 s1, Value.int IntKind.i64 s2] 23)) w.heap.size 23 #[.int .i64 s0, .int .i64 s1, .int .i64 s2] := Blk.new _ _ _
  have hB0 : Below w.heap.size w (w.alloc (Obj.cells #[Value.int IntKind.i64 s0, Value.int IntKind.i64 s1, Value.int IntKind.i64 s2] 23)) := (Below.refl _ _).alloc (Nat.le_refl _) _
  go_loopw [9] (fun k wr => ∃ j : Nat, 1 ≤ j ∧ j ≤ 16 ∧ k = .int .i64 (j : Int) ∧ Blk wr w.heap.size 23 #[.int .i64 s0, .int .i64 s1, .int .i64 s2] ∧ Below w.heap.size w wr) (fun k _ => (16 - intOf k).toNat)
  case atStart => exact ⟨1, by omega, by omega, rfl, hb0, hB0⟩
  case round =>
    clear hb0 hB0
    obtain ⟨j, hj1, hj, rfl, hb, hB⟩ := hrel
    have q1 := hb.cell 1
    have q2 := hb.cell 2
    simp only [List.getElem?_toArray, List.getElem?_cons_zero, List.getElem?_cons_succ] at q1 q2
    by_cases hlt : j ≤ 15
    · have h1 : (1 : Int) ≤ j ∧ (j : Int) ≤ 15 := by omega
      have AR := Lib.hid (halves_arms j s1 s2 z HZ.out h1)
      have h2 : (j : Int) ≤ 15 := by omega
      clear h1
      go_wp2_with fail
      refine (alu_s _ _ _ _ hb hB).mono ?_
      rintro e w1 ⟨rfl, k1, k2, k3, k4⟩
      clear q1 q2 hb hB
      go_wp2_with fail
      refine (alu_s _ _ _ _ k3 k4).mono ?_
      rintro e w2 ⟨rfl, q1, q2, hb, hB⟩
      clear k1 k2 k3 k4
      rw [CR.out, CE.out]
      have RR := aluR_rng (j : Int) s1 s2
      generalize aluR (j : Int) true s1 s2 = R at *
      have g1 : decide (R < 0) = false := by rw [decide_eq_false_iff_not]; omega
      have g2 : decide (4294967296 ≤ R) = false := by rw [decide_eq_false_iff_not]; omega
      clear RR
      obtain ⟨hc, hE, hF, hW⟩ | ⟨hc, hE⟩ | ⟨hc, hE, hz⟩ | ⟨hc, hE, hz⟩ := AR.out
      · rw [hE]
        have HE := Lib.hid hE
        have HF := Lib.hid hF
        have HW := Lib.hid hW
        clear hE hF hW AR
        rcases hc with ⟨c1, c2⟩ | ⟨c1, c2⟩ | ⟨c1, c2⟩
        · have f1 : decide ((j : Int) < 4) = true := by simp; omega
          have f2 : decide (7 < (j : Int)) = false := by simp; omega
          have p1 : decide ((j : Int) ≤ 3) = true := by simp; omega
          have p2 : decide (8 ≤ (j : Int)) = false := by simp; omega
          have p3 : decide ((j : Int) ≤ 10) = true := by simp; omega
          have p4 : decide (14 ≤ (j : Int)) = false := by simp; omega
          cases ez : (z != 0)
          all_goals
            go_wp2_with fail
            refine (HHz.out _).mono ?_
            rintro e w' ⟨rfl, rfl⟩
            go_wp2_with fail
            all_goals
              go_region_held3 (fun w' => w'.cell? ⟨w.heap.size, 1, none⟩ = some (.int .i64 s1) ∧ w'.cell? ⟨w.heap.size, 2, none⟩ = some (.int .i64 s2) ∧ Blk w' w.heap.size 23 #[.int .i64 s0, .int .i64 s1, .int .i64 s2] ∧ Below w.heap.size w w')
                (first | (refine ⟨?_, ?_, ?_, ?_⟩ <;> assumption) | (go_split_ands; refine ⟨?_, ?_, ?_, ?_⟩ <;> assumption) | (refine ⟨?_, ?_, ?_, below_drewN (by assumption) 1⟩ <;> assumption) | go_keep)
                (first | (go_at_call 32; refine (HL.out _ _).mono ?_; rintro e w' ⟨rfl, rfl⟩) | (go_at_call 34; refine (is_s _ _ _ _ _ HE.out HW.out k3 k4).mono ?_; rintro e w' ⟨rfl, m1, m2, m3, m4⟩) | (go_at_call 35; refine (of_s _ _ _ _ HF.out (Blk.drew hb) (below_drewN hB 1)).mono ?_; rintro e w' ⟨rfl, k1, k2, k3, k4⟩))
              go_wp2_with fail
              go_roundw
              case rel => exact ⟨j + 1, by omega, by omega, by go_num, m3, m4⟩
              case measure => simp [intOf]; omega
        · have f1 : decide ((j : Int) < 4) = false := by simp; omega
          have f2 : decide (7 < (j : Int)) = true := by simp; omega
          have p1 : decide ((j : Int) ≤ 3) = false := by simp; omega
          have p2 : decide (8 ≤ (j : Int)) = true := by simp; omega
          have p3 : decide ((j : Int) ≤ 10) = true := by simp; omega
          have p4 : decide (14 ≤ (j : Int)) = false := by simp; omega
          cases ez : (z != 0)
          all_goals
            go_wp2_with fail
            refine (HHz.out _).mono ?_
            rintro e w' ⟨rfl, rfl⟩
            go_wp2_with fail
            all_goals
              go_region_held3 (fun w' => w'.cell? ⟨w.heap.size, 1, none⟩ = some (.int .i64 s1) ∧ w'.cell? ⟨w.heap.size, 2, none⟩ = some (.int .i64 s2) ∧ Blk w' w.heap.size 23 #[.int .i64 s0, .int .i64 s1, .int .i64 s2] ∧ Below w.heap.size w w')
                (first | (refine ⟨?_, ?_, ?_, ?_⟩ <;> assumption) | (go_split_ands; refine ⟨?_, ?_, ?_, ?_⟩ <;> assumption) | (refine ⟨?_, ?_, ?_, below_drewN (by assumption) 1⟩ <;> assumption) | go_keep)
                (first | (go_at_call 32; refine (HL.out _ _).mono ?_; rintro e w' ⟨rfl, rfl⟩) | (go_at_call 34; refine (is_s _ _ _ _ _ HE.out HW.out k3 k4).mono ?_; rintro e w' ⟨rfl, m1, m2, m3, m4⟩) | (go_at_call 35; refine (of_s _ _ _ _ HF.out (Blk.drew hb) (below_drewN hB 1)).mono ?_; rintro e w' ⟨rfl, k1, k2, k3, k4⟩))
              go_wp2_with fail
              go_roundw
              case rel => exact ⟨j + 1, by omega, by omega, by go_num, m3, m4⟩
              case measure => simp [intOf]; omega
        · have f1 : decide ((j : Int) < 4) = false := by simp; omega
          have f2 : decide (7 < (j : Int)) = true := by simp; omega
          have p1 : decide ((j : Int) ≤ 3) = false := by simp; omega
          have p2 : decide (8 ≤ (j : Int)) = true := by simp; omega
          have p3 : decide ((j : Int) ≤ 10) = false := by simp; omega
          have p4 : decide (14 ≤ (j : Int)) = true := by simp; omega
          cases ez : (z != 0)
          all_goals
            go_wp2_with fail
            refine (HHz.out _).mono ?_
            rintro e w' ⟨rfl, rfl⟩
            go_wp2_with fail
            all_goals
              go_region_held3 (fun w' => w'.cell? ⟨w.heap.size, 1, none⟩ = some (.int .i64 s1) ∧ w'.cell? ⟨w.heap.size, 2, none⟩ = some (.int .i64 s2) ∧ Blk w' w.heap.size 23 #[.int .i64 s0, .int .i64 s1, .int .i64 s2] ∧ Below w.heap.size w w')
                (first | (refine ⟨?_, ?_, ?_, ?_⟩ <;> assumption) | (go_split_ands; refine ⟨?_, ?_, ?_, ?_⟩ <;> assumption) | (refine ⟨?_, ?_, ?_, below_drewN (by assumption) 1⟩ <;> assumption) | go_keep)
                (first | (go_at_call 32; refine (HL.out _ _).mono ?_; rintro e w' ⟨rfl, rfl⟩) | (go_at_call 34; refine (is_s _ _ _ _ _ HE.out HW.out k3 k4).mono ?_; rintro e w' ⟨rfl, m1, m2, m3, m4⟩) | (go_at_call 35; refine (of_s _ _ _ _ HF.out (Blk.drew hb) (below_drewN hB 1)).mono ?_; rintro e w' ⟨rfl, k1, k2, k3, k4⟩))
              go_wp2_with fail
              go_roundw
              case rel => exact ⟨j + 1, by omega, by omega, by go_num, m3, m4⟩
              case measure => simp [intOf]; omega
      · rw [hE]
        obtain ⟨c1, c2⟩ := hc
        have f1 : decide ((j : Int) < 4) = false := by simp; omega
        have f2 : decide (7 < (j : Int)) = true := by simp; omega
        clear hE AR
        have p1 : decide ((j : Int) ≤ 3) = false := by simp; omega
        have p2 : decide (8 ≤ (j : Int)) = true := by simp; omega
        have p3 : decide ((j : Int) ≤ 10) = false := by simp; omega
        have p4 : decide (14 ≤ (j : Int)) = false := by simp; omega
        cases ez : (z != 0)
        all_goals
          go_wp2_with fail
          refine (HHz.out _).mono ?_
          rintro e w' ⟨rfl, rfl⟩
          go_wp2_with fail
          all_goals
            go_quiet (fail)
            go_wp2_with fail
            go_roundw
            case rel => exact ⟨j + 1, by omega, by omega, by go_num, hb, below_drewN hB _⟩
            case measure => simp [intOf]; omega
      · rw [hE]
        obtain ⟨c1, c2⟩ := hc
        have f1 : decide ((j : Int) < 4) = false := by simp; omega
        have f2 : decide (7 < (j : Int)) = false := by simp; omega
        have p1 : decide ((j : Int) ≤ 3) = false := by simp; omega
        have p2 : decide (8 ≤ (j : Int)) = false := by simp; omega
        have p3 : decide ((j : Int) ≤ 10) = true := by simp; omega
        have p4 : decide (14 ≤ (j : Int)) = false := by simp; omega
        clear hE AR
        go_wp2_with fail
        refine (HHz.out _).mono ?_
        rintro e w' ⟨rfl, rfl⟩
        go_wp2_with fail
        all_goals
          go_quiet (fail)
          go_wp2_with fail
          go_roundw
          case rel => exact ⟨j + 1, by omega, by omega, by go_num, hb, below_drewN hB _⟩
          case measure => simp [intOf]; omega
      · rw [hE]
        obtain ⟨c1, c2⟩ := hc
        have f1 : decide ((j : Int) < 4) = false := by simp; omega
        have f2 : decide (7 < (j : Int)) = false := by simp; omega
        have p1 : decide ((j : Int) ≤ 3) = false := by simp; omega
        have p2 : decide (8 ≤ (j : Int)) = false := by simp; omega
        have p3 : decide ((j : Int) ≤ 10) = true := by simp; omega
        have p4 : decide (14 ≤ (j : Int)) = false := by simp; omega
        clear hE AR
        go_wp2_with fail
        refine (HHz.out _).mono ?_
        rintro e w' ⟨rfl, rfl⟩
        go_wp2_with fail
        all_goals
          go_quiet (fail)
          go_wp2_with fail
          go_roundw
          case rel => exact ⟨j + 1, by omega, by omega, by go_num, hb, below_drewN hB _⟩
          case measure => simp [intOf]; omega
    · have hj16 : j = 16 := by omega
      clear hj hlt hj1
      subst hj16
      clear q1 q2
      rw [show ((16 : Nat) : Int) = 16 from rfl]
      go_wp2_with fail
      go_loopw [15] (fun k wi => ∃ m : Nat, 27 ≤ m ∧ m ≤ 38 ∧ k = .int .i64 (m : Int) ∧ wi = wr) (fun k _ => (38 - intOf k).toNat)
      case atStart => exact ⟨27, by omega, by omega, rfl, rfl⟩
      case round =>
        obtain ⟨m, hm1, hm, rfl, rfl⟩ := hrel
        have q1 := hb.cell 1
        have q2 := hb.cell 2
        simp only [List.getElem?_toArray, List.getElem?_cons_zero, List.getElem?_cons_succ] at q1 q2
        by_cases hlt : m ≤ 37
        · have h2 : (m : Int) ≤ 37 := by omega
          go_wp2_with fail
          refine (holds_any _ _ _ _ _).mono ?_
          rintro e w' ⟨rfl, rfl⟩
          go_wp2_with fail
          refine (holds_any _ _ _ _ _).mono ?_
          rintro e w' ⟨rfl, rfl⟩
          rw [CH.out]
          generalize holdsM (m : Int) true s1 s2 = H
          go_wp2_with fail
          go_roundw
          case rel => exact ⟨m + 1, by omega, by omega, by go_num, trivial⟩
          case measure => simp [intOf]; omega
        · have hm38 : m = 38 := by omega
          clear hm hlt hm1
          subst hm38
          rw [show ((38 : Nat) : Int) = 38 from rfl]
          have hV : aluV 1 true (-1) 1 = 0 := by decide +kernel
          go_wp2_with fail
          refine (extend_any _ _ _ _).mono ?_
          rintro e w' ⟨rfl, rfl⟩
          go_wp2_with fail
          refine (extend_any _ _ _ _).mono ?_
          rintro e w' ⟨rfl, rfl⟩
          rw [C16.out]
          go_wp2_with fail
          refine (extend_any _ _ _ _).mono ?_
          rintro e w' ⟨rfl, rfl⟩
          rw [C8.out]
          go_wp2_with fail
          refine (extend_any _ _ _ _).mono ?_
          rintro e w' ⟨rfl, rfl⟩
          go_wp2_with fail
          refine (HL.out _ _).mono ?_
          rintro e w' ⟨rfl, rfl⟩
          go_wp2_with fail
          refine (is_s 1 true (-1) 1 0 (aluE_nd _ _ (by decide) (by decide)) hV hb hB).mono ?_
          rintro e w' ⟨rfl, k1, k2, k3, k4⟩
          go_wp2_with fail
          go_ret
          exact ⟨rfl, k4⟩
end Go.Proofs.Ytmoecflmdfkgdaa
