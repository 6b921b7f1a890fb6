/- Alu whole: every operation and every number that is none; 'of' and 'is'. -/
import Derived.Test.YtjhgjplhhhgfcaaGreatAlu
namespace Go.Proofs.YtjhgjplhhhgfcaaGreat
open Go.ChangeShapes Go.WideShapes Go.ChangeAt Go.RowKit
open Bits
set_option linter.unusedVariables false

theorem dv_rng (op : Int) (n : Bool) (b : Int) : 0 ≤ dv op n b ∧ dv op n b < 18446744073709551616 := by
  cases n
  · rw [dv_f]; exact un_rng _
  · rw [dv_t]; unfold hv2
    split
    · exact m5_rng _
    · split
      · exact sg_rng _
      · exact m32_rng _

theorem miss_no (op : Int) (h : op < 1 ∨ 15 < op) : Misses plainEs op ∧ Misses shiftsEs op ∧ Misses divisionsEs op := by
  have t : ∀ k : Int, 1 ≤ k → k ≤ 15 → (op == k) = false := fun k h1 h2 => by rw [beq_eq_false_iff_ne]; omega
  refine ⟨?_, ?_, ?_⟩
  · simp [Misses, plainEs, Instr.findNow, Instr.sameNow, t 1, t 2, t 3, t 8, t 9, t 10, t 14, t 15]
  · simp [Misses, shiftsEs, Instr.findNow, Instr.sameNow, t 11, t 12, t 13]
  · simp [Misses, divisionsEs, Instr.findNow, Instr.sameNow, t 4, t 5, t 6, t 7]

/-- no operation -/
theorem alu_no (op : Int) (n : Bool) (a b : Int) (h : op < 1 ∨ 15 < op) (w : World) :
    Calls Tryz.prog 39 #[.int .i64 op, .bool n, .int .i64 a, .int .i64 b] w fun e w' => e = .returned (.tuple #[.int .i64 0, .int .i64 1]) ∧ Below w.heap.size w w' := by
  obtain ⟨h1, h2, h3⟩ := miss_no op h
  have t : ∀ k : Int, 1 ≤ k → k ≤ 15 → (op == k) = false := fun k h1 h2 => by rw [beq_eq_false_iff_ne]; omega
  have H := Lib.hid (fun (x y : Int) (hx : 0 ≤ x ∧ x < 18446744073709551616) (hy : 0 ≤ y ∧ y < 18446744073709551616) (w : World) =>
    halves_o op x y hx hy (t 11 (by decide) (by decide)) (t 12 (by decide) (by decide)) (t 13 (by decide) (by decide)) (t 6 (by decide) (by decide)) (t 7 (by decide) (by decide)) w)
  clear t
  cases n
  · go_enter Tryz.func39, Tryz.ntmps39
    go_wp2_with fail
    refine (find_none op _ h1 h2 h3 _).mono ?_
    rintro e w1 ⟨rfl, hB1⟩
    go_wp2_with fail
    go_ret2
    exact ⟨rfl, hB1⟩
  · go_enter Tryz.func39, Tryz.ntmps39
    go_wp2_with fail
    refine (H.out _ _ (un_rng a) (un_rng b) _).mono ?_
    rintro e w' ⟨rfl, rfl⟩
    go_wp2_with fail
    refine (find_none op _ h1 h2 h3 _).mono ?_
    rintro e w1 ⟨rfl, hB1⟩
    go_wp2_with fail
    go_ret2
    exact ⟨rfl, hB1⟩

/-- a division by 0 -/
theorem alu_zero (op : Int) (f : FuncId) (n : Bool) (a b : Int) (h0 : dv op n b = 0) (h1 : Misses plainEs op) (h2 : Misses shiftsEs op) (h3 : Hits divisionsEs op f)
    (hh : ∀ (w : World), Calls Tryz.prog 66 #[.int .i64 op, .int .u64 (IntKind.u64.wrap a), .int .u64 (IntKind.u64.wrap b)] w fun e w' => e = .returned (.tuple #[.int .u64 (hv1 op (IntKind.u64.wrap a)), .int .u64 (hv2 op (IntKind.u64.wrap b))]) ∧ w = w') (w : World) :
    Calls Tryz.prog 39 #[.int .i64 op, .bool n, .int .i64 a, .int .i64 b] w fun e w' => e = .returned (.tuple #[.int .i64 0, .int .i64 84]) ∧ Below w.heap.size w w' := by
  have H := Lib.hid hh
  clear hh
  cases n
  · rw [dv_f] at h0
    have HZ := Lib.hid (show (IntKind.u64.wrap b == 0) = true by rw [beq_iff_eq]; exact h0)
    clear h0
    go_enter Tryz.func39, Tryz.ntmps39
    go_wp2_with fail
    refine (find_zero op _ HZ.out f h1 h2 h3 _).mono ?_
    rintro e w1 ⟨rfl, hB1⟩
    go_wp2_with fail
    go_ret2
    exact ⟨rfl, hB1⟩
  · rw [dv_t] at h0
    have HZ := Lib.hid (show (hv2 op (IntKind.u64.wrap b) == 0) = true by rw [beq_iff_eq]; exact h0)
    clear h0
    go_enter Tryz.func39, Tryz.ntmps39
    go_wp2_with fail
    refine (H.out _).mono ?_
    rintro e w' ⟨rfl, rfl⟩
    go_wp2_with fail
    refine (find_zero op _ HZ.out f h1 h2 h3 _).mono ?_
    rintro e w1 ⟨rfl, hB1⟩
    go_wp2_with fail
    go_ret2
    exact ⟨rfl, hB1⟩

theorem aluE_no {op : Int} (h : op < 1 ∨ 15 < op) (n : Bool) (b : Int) : aluE op n b = 1 := by unfold aluE; rw [if_pos h]
theorem aluE_ok {op : Int} (h : ¬ (op < 1 ∨ 15 < op)) (n : Bool) (b : Int) (h2 : ¬ ((4 ≤ op ∧ op ≤ 7) ∧ dv op n b = 0)) : aluE op n b = 0 := by unfold aluE; rw [if_neg h, if_neg h2]
theorem aluE_zero {op : Int} (h : ¬ (op < 1 ∨ 15 < op)) (n : Bool) (b : Int) (h2 : (4 ≤ op ∧ op ≤ 7) ∧ dv op n b = 0) : aluE op n b = 84 := by unfold aluE; rw [if_neg h, if_pos h2]
theorem aluR_ok {op : Int} {n : Bool} {a b : Int} (h : aluE op n b = 0) : aluR op n a b = aluV op n a b := by unfold aluR; rw [if_pos h]
theorem aluR_no {op : Int} {n : Bool} {a b : Int} (h : aluE op n b ≠ 0) : aluR op n a b = 0 := by unfold aluR; rw [if_neg h]

/-- Alu, whatever it is asked -/
theorem alu_any (op : Int) (n : Bool) (a b : Int) (w : World) :
    Calls Tryz.prog 39 #[.int .i64 op, .bool n, .int .i64 a, .int .i64 b] w fun e w' => e = .returned (.tuple #[.int .i64 (aluR op n a b), .int .i64 (aluE op n b)]) ∧ Below w.heap.size w w' := by
  by_cases h : op < 1 ∨ 15 < op
  · have e := aluE_no h n b
    rw [aluR_no (by rw [e]; decide), e]
    exact alu_no op n a b h w
  by_cases h2 : (4 ≤ op ∧ op ≤ 7) ∧ dv op n b = 0
  · have e := aluE_zero h n b h2
    rw [aluR_no (by rw [e]; decide), e]
    obtain ⟨h3, h4⟩ := h2
    have hc : op = 4 ∨ op = 5 ∨ op = 6 ∨ op = 7 := by omega
    rcases hc with rfl | rfl | rfl | rfl
    · exact alu_zero 4 _ n a b h4 missP_4 missS_4 hit_4 (fun w => by rw [hv1_4, hv2_4]; exact halves_o _ _ _ (un_rng a) (un_rng b) rfl rfl rfl rfl rfl w) w
    · exact alu_zero 5 _ n a b h4 missP_5 missS_5 hit_5 (fun w => by rw [hv1_5, hv2_5]; exact halves_o _ _ _ (un_rng a) (un_rng b) rfl rfl rfl rfl rfl w) w
    · exact alu_zero 6 _ n a b h4 missP_6 missS_6 hit_6 (fun w => by rw [hv1_6, hv2_6]; exact halves_s _ _ _ (un_rng a) (un_rng b) rfl rfl rfl (by decide) w) w
    · exact alu_zero 7 _ n a b h4 missP_7 missS_7 hit_7 (fun w => by rw [hv1_7, hv2_7]; exact halves_s _ _ _ (un_rng a) (un_rng b) rfl rfl rfl (by decide) w) w
  have e := aluE_ok h n b h2
  rw [aluR_ok e, e]
  have hd : 4 ≤ op → op ≤ 7 → 1 ≤ dv op n b := fun h3 h4 => by
    have := dv_rng op n b
    have : dv op n b ≠ 0 := fun h5 => h2 ⟨⟨h3, h4⟩, h5⟩
    omega
  have hc : op = 1 ∨ op = 2 ∨ op = 3 ∨ op = 4 ∨ op = 5 ∨ op = 6 ∨ op = 7 ∨ op = 8 ∨ op = 9 ∨ op = 10 ∨ op = 11 ∨ op = 12 ∨ op = 13 ∨ op = 14 ∨ op = 15 := by omega
  rcases hc with rfl | rfl | rfl | rfl | rfl | rfl | rfl | rfl | rfl | rfl | rfl | rfl | rfl | rfl | rfl
  · exact alu_add n a b w
  · exact alu_sub n a b w
  · exact alu_mul n a b w
  · exact alu_div n a b (hd (by decide) (by decide)) w
  · exact alu_mod n a b (hd (by decide) (by decide)) w
  · exact alu_sdiv n a b (hd (by decide) (by decide)) w
  · exact alu_smod n a b (hd (by decide) (by decide)) w
  · exact alu_or n a b w
  · exact alu_and n a b w
  · exact alu_xor n a b w
  · exact alu_lsh n a b w
  · exact alu_rsh n a b w
  · exact alu_arsh n a b w
  · exact alu_neg n a b w
  · exact alu_mov n a b w

end Go.Proofs.YtjhgjplhhhgfcaaGreat
