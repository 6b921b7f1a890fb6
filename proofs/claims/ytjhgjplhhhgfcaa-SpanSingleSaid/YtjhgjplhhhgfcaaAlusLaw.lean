/- WordAlus: the walk of the law. -/
import Derived.Test.YtjhgjplhhhgfcaaAlusMath
namespace Go.Proofs.Ytjhgjplhhhgfcaa
open Go.ChangeShapes Go.WideShapes Go.ChangeAt Go.RowKit
open Bits
set_option linter.unusedVariables false

/-- what an Alu leaves -/
def AluPost (w : World) (op : Int) (n : Bool) (a b : Int) (e : Ending) (w' : World) : Prop :=
  e = .returned (.tuple #[.int .i64 (aluR op n a b), .int .i64 (aluE op n b)]) ∧ Below w.heap.size w w'
theorem fin64 {w : World} {op a b V : Int} (hE : aluE op false b = 0) (hV : wrap64 V = aluV op false a b)
    (C : Calls Try.prog 28 #[.int .i64 op, .bool false, .int .i64 a, .int .i64 b] w fun e w' => e = .returned (.tuple #[.int .i64 (wrap64 (V % 2 ^ 64)), .int .i64 0]) ∧ Below w.heap.size w w') :
    Calls Try.prog 28 #[.int .i64 op, .bool false, .int .i64 a, .int .i64 b] w (AluPost w op false a b) := by
  rw [w64_m64, hV] at C
  unfold AluPost
  rw [aluR_ok hE, hE]
  exact C
theorem fin32 {w : World} {op a b V : Int} (hE : aluE op true b = 0) (hV : V % 4294967296 = aluV op true a b)
    (C : Calls Try.prog 28 #[.int .i64 op, .bool true, .int .i64 a, .int .i64 b] w fun e w' => e = .returned (.tuple #[.int .i64 (wrap64 (V % 2 ^ 32)), .int .i64 0]) ∧ Below w.heap.size w w') :
    Calls Try.prog 28 #[.int .i64 op, .bool true, .int .i64 a, .int .i64 b] w (AluPost w op true a b) := by
  rw [w64_m32, hV] at C
  unfold AluPost
  rw [aluR_ok hE, hE]
  exact C

theorem ra_f_1 (a b : Int) (w : World) (hE : aluE 1 false b = 0) : Calls Try.prog 28 #[.int .i64 1, .bool false, .int .i64 a, .int .i64 b] w (AluPost w 1 false a b) :=
  fin64 hE (by rw [Int.add_zero, m_add]) (refAlu_nd_64 1 (by decide) (by decide) a b (a + b + 0) w (fun w P Q ha hb => joined_1 64 (.inr rfl) P Q a b w ha hb))
theorem ra_f_2 (a b : Int) (w : World) (hE : aluE 2 false b = 0) : Calls Try.prog 28 #[.int .i64 2, .bool false, .int .i64 a, .int .i64 b] w (AluPost w 2 false a b) :=
  fin64 hE (by rw [show a + (-b - 1) + 1 = a - b by omega, m_sub]) (refAlu_nd_64 2 (by decide) (by decide) a b (a + (-b - 1) + 1) w (fun w P Q ha hb => joined_2 64 (.inr rfl) P Q a b w ha hb))
theorem ra_f_3 (a b : Int) (w : World) (hE : aluE 3 false b = 0) : Calls Try.prog 28 #[.int .i64 3, .bool false, .int .i64 a, .int .i64 b] w (AluPost w 3 false a b) :=
  fin64 hE ((m_mul a b).symm) (refAlu_nd_64 3 (by decide) (by decide) a b (a * b) w (fun w P Q ha hb => joined_3 64 (.inr rfl) P Q a b w ha hb))
theorem ra_f_4 (a b : Int) (w : World) (hE : aluE 4 false b = 0) (hb0 : 0 < b % 2 ^ 64) : Calls Try.prog 28 #[.int .i64 4, .bool false, .int .i64 a, .int .i64 b] w (AluPost w 4 false a b) :=
  fin64 hE (W4 a b) (refAlu_d_64 4 (by decide) a b (a % 2 ^ 64 / (b % 2 ^ 64)) hb0 w (fun w P Q ha hb => joined_4 64 (.inr rfl) P Q a b w ha hb hb0))
theorem ra_f_5 (a b : Int) (w : World) (hE : aluE 5 false b = 0) (hb0 : 0 < b % 2 ^ 64) : Calls Try.prog 28 #[.int .i64 5, .bool false, .int .i64 a, .int .i64 b] w (AluPost w 5 false a b) :=
  fin64 hE (W5 a b) (refAlu_d_64 5 (by decide) a b (a % 2 ^ 64 % (b % 2 ^ 64)) hb0 w (fun w P Q ha hb => joined_5 64 (.inr rfl) P Q a b w ha hb hb0))
theorem ra_f_6 (a b : Int) (w : World) (hE : aluE 6 false b = 0) (hb0 : 0 < b % 2 ^ 64) : Calls Try.prog 28 #[.int .i64 6, .bool false, .int .i64 a, .int .i64 b] w (AluPost w 6 false a b) :=
  fin64 hE (W6 a b) (refAlu_d_64 6 (by decide) a b ((sx 64 a).tdiv (sx 64 b)) hb0 w (fun w P Q ha hb => joined_6 64 (.inr rfl) P Q a b w ha hb hb0))
theorem ra_f_7 (a b : Int) (w : World) (hE : aluE 7 false b = 0) (hb0 : 0 < b % 2 ^ 64) : Calls Try.prog 28 #[.int .i64 7, .bool false, .int .i64 a, .int .i64 b] w (AluPost w 7 false a b) :=
  fin64 hE (W7 a b) (refAlu_d_64 7 (by decide) a b ((sx 64 a).tmod (sx 64 b)) hb0 w (fun w P Q ha hb => joined_7 64 (.inr rfl) P Q a b w ha hb hb0))
theorem ra_f_8 (a b : Int) (w : World) (hE : aluE 8 false b = 0) : Calls Try.prog 28 #[.int .i64 8, .bool false, .int .i64 a, .int .i64 b] w (AluPost w 8 false a b) :=
  fin64 hE ((m_or a b).symm) (refAlu_nd_64 8 (by decide) (by decide) a b (bits BinOp.or IntKind.u64 (IntKind.u64.wrap a) (IntKind.u64.wrap b)) w (fun w P Q ha hb => joined_8 64 (.inr rfl) P Q a b w ha hb _ (fun j hj => or_bit a b j (by omega))))
theorem ra_f_9 (a b : Int) (w : World) (hE : aluE 9 false b = 0) : Calls Try.prog 28 #[.int .i64 9, .bool false, .int .i64 a, .int .i64 b] w (AluPost w 9 false a b) :=
  fin64 hE ((m_and a b).symm) (refAlu_nd_64 9 (by decide) (by decide) a b (bits BinOp.and IntKind.u64 (IntKind.u64.wrap a) (IntKind.u64.wrap b)) w (fun w P Q ha hb => joined_9 64 (.inr rfl) P Q a b w ha hb _ (fun j hj => and_bit a b j (by omega))))
theorem ra_f_10 (a b : Int) (w : World) (hE : aluE 10 false b = 0) : Calls Try.prog 28 #[.int .i64 10, .bool false, .int .i64 a, .int .i64 b] w (AluPost w 10 false a b) :=
  fin64 hE ((m_xor a b).symm) (refAlu_nd_64 10 (by decide) (by decide) a b (bits BinOp.xor IntKind.u64 (IntKind.u64.wrap a) (IntKind.u64.wrap b)) w (fun w P Q ha hb => joined_10 64 (.inr rfl) P Q a b w ha hb _ (fun j hj => xor_bit a b j (by omega))))
theorem ra_f_11 (a b : Int) (w : World) (hE : aluE 11 false b = 0) : Calls Try.prog 28 #[.int .i64 11, .bool false, .int .i64 a, .int .i64 b] w (AluPost w 11 false a b) :=
  fin64 hE (W11 a b) (refAlu_nd_64 11 (by decide) (by decide) a b (a * 2 ^ shk 64 b) w (fun w P Q ha hb => joined_11 64 (.inr rfl) P Q a b w ha hb))
theorem ra_f_12 (a b : Int) (w : World) (hE : aluE 12 false b = 0) : Calls Try.prog 28 #[.int .i64 12, .bool false, .int .i64 a, .int .i64 b] w (AluPost w 12 false a b) :=
  fin64 hE (W12 a b) (refAlu_nd_64 12 (by decide) (by decide) a b ((a % 2 ^ 64 - 0 * 2 ^ 64) / 2 ^ shk 64 b) w (fun w P Q ha hb => joined_12 64 (.inr rfl) P Q a b w ha hb))
theorem ra_f_13 (a b : Int) (w : World) (hE : aluE 13 false b = 0) : Calls Try.prog 28 #[.int .i64 13, .bool false, .int .i64 a, .int .i64 b] w (AluPost w 13 false a b) :=
  fin64 hE (W13 a b) (refAlu_nd_64 13 (by decide) (by decide) a b ((a % 2 ^ 64 - (a / 2 ^ (64 - 1) % 2) * 2 ^ 64) / 2 ^ shk 64 b) w (fun w P Q ha hb => joined_13 64 (.inr rfl) P Q a b w ha hb))
theorem ra_f_14 (a b : Int) (w : World) (hE : aluE 14 false b = 0) : Calls Try.prog 28 #[.int .i64 14, .bool false, .int .i64 a, .int .i64 b] w (AluPost w 14 false a b) :=
  fin64 hE ((m_neg a b).symm) (refAlu_nd_64 14 (by decide) (by decide) a b (-a) w (fun w P Q ha hb => joined_14 64 (.inr rfl) P Q a b w ha hb))
theorem ra_f_15 (a b : Int) (w : World) (hE : aluE 15 false b = 0) : Calls Try.prog 28 #[.int .i64 15, .bool false, .int .i64 a, .int .i64 b] w (AluPost w 15 false a b) :=
  fin64 hE ((m_mov a b).symm) (refAlu_nd_64 15 (by decide) (by decide) a b (b) w (fun w P Q ha hb => joined_15 64 (.inr rfl) P Q a b w ha hb))
theorem ra_t_1 (a b : Int) (w : World) (hE : aluE 1 true b = 0) : Calls Try.prog 28 #[.int .i64 1, .bool true, .int .i64 a, .int .i64 b] w (AluPost w 1 true a b) :=
  fin32 hE (by rw [h_whole 1 a b (by decide), m_add, Int.add_zero, w64_low]) (refAlu_nd_32 1 (by decide) (by decide) a b (a + b + 0) w (fun w P Q ha hb => joined_1 32 (.inl rfl) P Q a b w ha hb))
theorem ra_t_2 (a b : Int) (w : World) (hE : aluE 2 true b = 0) : Calls Try.prog 28 #[.int .i64 2, .bool true, .int .i64 a, .int .i64 b] w (AluPost w 2 true a b) :=
  fin32 hE (by rw [h_whole 2 a b (by decide), m_sub, show a + (-b - 1) + 1 = a - b by omega, w64_low]) (refAlu_nd_32 2 (by decide) (by decide) a b (a + (-b - 1) + 1) w (fun w P Q ha hb => joined_2 32 (.inl rfl) P Q a b w ha hb))
theorem ra_t_3 (a b : Int) (w : World) (hE : aluE 3 true b = 0) : Calls Try.prog 28 #[.int .i64 3, .bool true, .int .i64 a, .int .i64 b] w (AluPost w 3 true a b) :=
  fin32 hE (by rw [h_whole 3 a b (by decide), m_mul, w64_low]) (refAlu_nd_32 3 (by decide) (by decide) a b (a * b) w (fun w P Q ha hb => joined_3 32 (.inl rfl) P Q a b w ha hb))
theorem ra_t_4 (a b : Int) (w : World) (hE : aluE 4 true b = 0) (hb0 : 0 < b % 2 ^ 32) : Calls Try.prog 28 #[.int .i64 4, .bool true, .int .i64 a, .int .i64 b] w (AluPost w 4 true a b) :=
  fin32 hE (N4 a b) (refAlu_d_32 4 (by decide) a b (a % 2 ^ 32 / (b % 2 ^ 32)) hb0 w (fun w P Q ha hb => joined_4 32 (.inl rfl) P Q a b w ha hb hb0))
theorem ra_t_5 (a b : Int) (w : World) (hE : aluE 5 true b = 0) (hb0 : 0 < b % 2 ^ 32) : Calls Try.prog 28 #[.int .i64 5, .bool true, .int .i64 a, .int .i64 b] w (AluPost w 5 true a b) :=
  fin32 hE (N5 a b) (refAlu_d_32 5 (by decide) a b (a % 2 ^ 32 % (b % 2 ^ 32)) hb0 w (fun w P Q ha hb => joined_5 32 (.inl rfl) P Q a b w ha hb hb0))
theorem ra_t_6 (a b : Int) (w : World) (hE : aluE 6 true b = 0) (hb0 : 0 < b % 2 ^ 32) : Calls Try.prog 28 #[.int .i64 6, .bool true, .int .i64 a, .int .i64 b] w (AluPost w 6 true a b) :=
  fin32 hE (N6 a b) (refAlu_d_32 6 (by decide) a b ((sx 32 a).tdiv (sx 32 b)) hb0 w (fun w P Q ha hb => joined_6 32 (.inl rfl) P Q a b w ha hb hb0))
theorem ra_t_7 (a b : Int) (w : World) (hE : aluE 7 true b = 0) (hb0 : 0 < b % 2 ^ 32) : Calls Try.prog 28 #[.int .i64 7, .bool true, .int .i64 a, .int .i64 b] w (AluPost w 7 true a b) :=
  fin32 hE (N7 a b) (refAlu_d_32 7 (by decide) a b ((sx 32 a).tmod (sx 32 b)) hb0 w (fun w P Q ha hb => joined_7 32 (.inl rfl) P Q a b w ha hb hb0))
theorem ra_t_8 (a b : Int) (w : World) (hE : aluE 8 true b = 0) : Calls Try.prog 28 #[.int .i64 8, .bool true, .int .i64 a, .int .i64 b] w (AluPost w 8 true a b) :=
  fin32 hE (by rw [h_whole 8 a b (by decide), m_or, w64_low]) (refAlu_nd_32 8 (by decide) (by decide) a b (bits BinOp.or IntKind.u64 (IntKind.u64.wrap a) (IntKind.u64.wrap b)) w (fun w P Q ha hb => joined_8 32 (.inl rfl) P Q a b w ha hb _ (fun j hj => or_bit a b j (by omega))))
theorem ra_t_9 (a b : Int) (w : World) (hE : aluE 9 true b = 0) : Calls Try.prog 28 #[.int .i64 9, .bool true, .int .i64 a, .int .i64 b] w (AluPost w 9 true a b) :=
  fin32 hE (by rw [h_whole 9 a b (by decide), m_and, w64_low]) (refAlu_nd_32 9 (by decide) (by decide) a b (bits BinOp.and IntKind.u64 (IntKind.u64.wrap a) (IntKind.u64.wrap b)) w (fun w P Q ha hb => joined_9 32 (.inl rfl) P Q a b w ha hb _ (fun j hj => and_bit a b j (by omega))))
theorem ra_t_10 (a b : Int) (w : World) (hE : aluE 10 true b = 0) : Calls Try.prog 28 #[.int .i64 10, .bool true, .int .i64 a, .int .i64 b] w (AluPost w 10 true a b) :=
  fin32 hE (by rw [h_whole 10 a b (by decide), m_xor, w64_low]) (refAlu_nd_32 10 (by decide) (by decide) a b (bits BinOp.xor IntKind.u64 (IntKind.u64.wrap a) (IntKind.u64.wrap b)) w (fun w P Q ha hb => joined_10 32 (.inl rfl) P Q a b w ha hb _ (fun j hj => xor_bit a b j (by omega))))
theorem ra_t_11 (a b : Int) (w : World) (hE : aluE 11 true b = 0) : Calls Try.prog 28 #[.int .i64 11, .bool true, .int .i64 a, .int .i64 b] w (AluPost w 11 true a b) :=
  fin32 hE (N11 a b) (refAlu_nd_32 11 (by decide) (by decide) a b (a * 2 ^ shk 32 b) w (fun w P Q ha hb => joined_11 32 (.inl rfl) P Q a b w ha hb))
theorem ra_t_12 (a b : Int) (w : World) (hE : aluE 12 true b = 0) : Calls Try.prog 28 #[.int .i64 12, .bool true, .int .i64 a, .int .i64 b] w (AluPost w 12 true a b) :=
  fin32 hE (N12 a b) (refAlu_nd_32 12 (by decide) (by decide) a b ((a % 2 ^ 32 - 0 * 2 ^ 32) / 2 ^ shk 32 b) w (fun w P Q ha hb => joined_12 32 (.inl rfl) P Q a b w ha hb))
theorem ra_t_13 (a b : Int) (w : World) (hE : aluE 13 true b = 0) : Calls Try.prog 28 #[.int .i64 13, .bool true, .int .i64 a, .int .i64 b] w (AluPost w 13 true a b) :=
  fin32 hE (N13 a b) (refAlu_nd_32 13 (by decide) (by decide) a b ((a % 2 ^ 32 - (a / 2 ^ (32 - 1) % 2) * 2 ^ 32) / 2 ^ shk 32 b) w (fun w P Q ha hb => joined_13 32 (.inl rfl) P Q a b w ha hb))
theorem ra_t_14 (a b : Int) (w : World) (hE : aluE 14 true b = 0) : Calls Try.prog 28 #[.int .i64 14, .bool true, .int .i64 a, .int .i64 b] w (AluPost w 14 true a b) :=
  fin32 hE (by rw [h_whole 14 a b (by decide), m_neg, w64_low]) (refAlu_nd_32 14 (by decide) (by decide) a b (-a) w (fun w P Q ha hb => joined_14 32 (.inl rfl) P Q a b w ha hb))
theorem ra_t_15 (a b : Int) (w : World) (hE : aluE 15 true b = 0) : Calls Try.prog 28 #[.int .i64 15, .bool true, .int .i64 a, .int .i64 b] w (AluPost w 15 true a b) :=
  fin32 hE (by rw [h_whole 15 a b (by decide), m_mov, w64_low]) (refAlu_nd_32 15 (by decide) (by decide) a b (b) w (fun w P Q ha hb => joined_15 32 (.inl rfl) P Q a b w ha hb))

theorem refAlu_any (op : Int) (n : Bool) (a b : Int) (w : World) : Calls Try.prog 28 #[.int .i64 op, .bool n, .int .i64 a, .int .i64 b] w (AluPost w op n a b) := by
  by_cases h : op < 1 ∨ 15 < op
  · have e := aluE_no h n b
    unfold AluPost
    rw [e, aluR_no (by rw [e]; decide)]
    exact refAlu_no op n a b h w
  · have hz : n = false → (dv op n b = 0 ↔ b % 2 ^ 64 = 0) := fun e => by rw [e, dv_f, u_m64]
    have hz' : n = true → 4 ≤ op ∧ op ≤ 7 → (dv op n b = 0 ↔ b % 2 ^ 32 = 0) := fun e h => by rw [e, dv_zero op b h, p32]
    by_cases h2 : (4 ≤ op ∧ op ≤ 7) ∧ dv op n b = 0
    · have e := aluE_zero h n b h2
      unfold AluPost
      rw [e, aluR_no (by rw [e]; decide)]
      cases n
      · exact refAlu_dz_64 op h2.1 a b ((hz rfl).1 h2.2) w
      · exact refAlu_dz_32 op h2.1 a b ((hz' rfl h2.1).1 h2.2) w
    · have e := aluE_ok h n b h2
      have hc : op = 1 ∨ op = 2 ∨ op = 3 ∨ op = 4 ∨ op = 5 ∨ op = 6 ∨ op = 7 ∨ op = 8 ∨ op = 9 ∨ op = 10 ∨ op = 11 ∨ op = 12 ∨ op = 13 ∨ op = 14 ∨ op = 15 := by omega
      have hd64 : n = false → 4 ≤ op → op ≤ 7 → 0 < b % 2 ^ 64 := fun e h3 h4 => by
        have h5 := Int.emod_nonneg b (Int.ne_of_gt (pow_pos' 64))
        have : b % 2 ^ 64 ≠ 0 := fun h6 => h2 ⟨⟨h3, h4⟩, (hz e).2 h6⟩
        omega
      have hd32 : n = true → 4 ≤ op → op ≤ 7 → 0 < b % 2 ^ 32 := fun e h3 h4 => by
        have h5 := Int.emod_nonneg b (Int.ne_of_gt (pow_pos' 32))
        have : b % 2 ^ 32 ≠ 0 := fun h6 => h2 ⟨⟨h3, h4⟩, (hz' e ⟨h3, h4⟩).2 h6⟩
        omega
      clear hz hz' h2 h
      cases n
      · rcases hc with rfl | rfl | rfl | rfl | rfl | rfl | rfl | rfl | rfl | rfl | rfl | rfl | rfl | rfl | rfl
        · exact ra_f_1 a b w e
        · exact ra_f_2 a b w e
        · exact ra_f_3 a b w e
        · exact ra_f_4 a b w e (hd64 rfl (by decide) (by decide))
        · exact ra_f_5 a b w e (hd64 rfl (by decide) (by decide))
        · exact ra_f_6 a b w e (hd64 rfl (by decide) (by decide))
        · exact ra_f_7 a b w e (hd64 rfl (by decide) (by decide))
        · exact ra_f_8 a b w e
        · exact ra_f_9 a b w e
        · exact ra_f_10 a b w e
        · exact ra_f_11 a b w e
        · exact ra_f_12 a b w e
        · exact ra_f_13 a b w e
        · exact ra_f_14 a b w e
        · exact ra_f_15 a b w e
      · rcases hc with rfl | rfl | rfl | rfl | rfl | rfl | rfl | rfl | rfl | rfl | rfl | rfl | rfl | rfl | rfl
        · exact ra_t_1 a b w e
        · exact ra_t_2 a b w e
        · exact ra_t_3 a b w e
        · exact ra_t_4 a b w e (hd32 rfl (by decide) (by decide))
        · exact ra_t_5 a b w e (hd32 rfl (by decide) (by decide))
        · exact ra_t_6 a b w e (hd32 rfl (by decide) (by decide))
        · exact ra_t_7 a b w e (hd32 rfl (by decide) (by decide))
        · exact ra_t_8 a b w e
        · exact ra_t_9 a b w e
        · exact ra_t_10 a b w e
        · exact ra_t_11 a b w e
        · exact ra_t_12 a b w e
        · exact ra_t_13 a b w e
        · exact ra_t_14 a b w e
        · exact ra_t_15 a b w e

theorem aluE_rng (op : Int) (n : Bool) (b : Int) : 0 ≤ aluE op n b ∧ aluE op n b ≤ 100 := by
  unfold aluE
  split
  · decide
  · split <;> decide

end Go.Proofs.Ytjhgjplhhhgfcaa
