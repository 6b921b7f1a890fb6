/- The values of a unit that is parsed: plain mathematics. -/
import Derived.Test.YthibideapapcbaaDoorCodeS
namespace Go.Proofs.YthibideapapcbaaDoor
open Go.RowKit
set_option linter.unusedVariables false

theorem wrap64_small {x : Int} (h1 : -9223372036854775808 ≤ x) (h2 : x < 9223372036854775808) : wrap64 x = x := by unfold wrap64; omega
theorem to32 (x : Int) : wrap32 x = IntKind.i32.wrap x := by rw [IntKind.wrap_i32, wrap32]
theorem agg5 {a b c d e a' b' c' d' e' : Int} (h1 : a = a') (h2 : b = b') (h3 : c = c') (h4 : d = d') (h5 : e = e') :
    Ending.returned (.agg #[.int .i64 a, .int .i64 b, .int .i64 c, .int .i64 d, .int .i64 e]) = Ending.returned (.agg #[.int .i64 a', .int .i64 b', .int .i64 c', .int .i64 d', .int .i64 e']) := by subst h1 h2 h3 h4 h5; rfl
/-- a byte -/
def IsB (x : Int) : Prop := 0 ≤ x ∧ x < 256
theorem r0 (b : Int) (h : IsB b) : wrap64 b = b := by obtain ⟨h1, h2⟩ := h; exact wrap64_small (by omega) (by omega)
theorem parse1 (b : Int) (h : IsB b) : wrap64 (bits BinOp.and IntKind.u8 b 15) = b % 16 := by
  rw [and15 b h]; exact wrap64_small (by omega) (by omega)
theorem parse2 (b : Int) (h : IsB b) : wrap64 (b / 16) = b / 16 := by obtain ⟨h1, h2⟩ := h; exact wrap64_small (by omega) (by omega)
theorem parse3 (a b : Int) (ha : IsB a) (hb : IsB b) : wrap64 (bits BinOp.or IntKind.i16 (IntKind.i16.wrap a) (IntKind.i16.wrap (IntKind.i16.wrap b * 256))) = off16 a b := by
  rw [off16_eq a b ha hb]
  obtain ⟨h1, h2⟩ := ha; obtain ⟨h3, h4⟩ := hb
  refine wrap64_small ?_ ?_ <;> unfold off16 <;> split <;> omega
theorem parse4 (a b c d : Int) (ha : IsB a) (hb : IsB b) (hc : IsB c) (hd : IsB d) : wrap64 (bits BinOp.or IntKind.i32 (bits BinOp.or IntKind.i32 (bits BinOp.or IntKind.i32 (wrap32 a) (wrap32 (wrap32 b * 256))) (wrap32 (wrap32 c * 65536))) (wrap32 (wrap32 d * 16777216))) = imm32 a b c d := by
  simp only [to32]
  rw [imm32_eq a b c d ha hb hc hd]
  obtain ⟨h1, h2⟩ := ha; obtain ⟨h3, h4⟩ := hb; obtain ⟨h5, h6⟩ := hc; obtain ⟨h7, h8⟩ := hd
  refine wrap64_small ?_ ?_ <;> unfold imm32 <;> split <;> omega
theorem to64 (x : Int) : IntKind.i64.wrap x = wrap64 x := by rw [IntKind.wrap_i64, wrap64]
theorem agg5v {a b c d e a' b' c' d' e' : Int} (h1 : a = a') (h2 : b = b') (h3 : c = c') (h4 : d = d') (h5 : e = e') :
    Value.agg #[.int .i64 a, .int .i64 b, .int .i64 c, .int .i64 d, .int .i64 e] = Value.agg #[.int .i64 a', .int .i64 b', .int .i64 c', .int .i64 d', .int .i64 e'] := by subst h1 h2 h3 h4 h5; rfl
theorem unit_parsed (b0 b1 b2 b3 b4 b5 b6 b7 : Int) (r8 : IsB b0) (r9 : IsB b1) (ra : IsB b2) (rb : IsB b3) (rc : IsB b4) (rd : IsB b5) (re : IsB b6) (rf : IsB b7) :
    Value.agg #[.int .i64 (IntKind.i64.wrap b0), .int .i64 (IntKind.i64.wrap (bits BinOp.and IntKind.u8 b1 15)), .int .i64 (IntKind.i64.wrap (b1 / 16)),
      .int .i64 (IntKind.i64.wrap (bits BinOp.or IntKind.i16 (IntKind.i16.wrap b2) (IntKind.i16.wrap (IntKind.i16.wrap b3 * 256)))),
      .int .i64 (IntKind.i64.wrap (bits BinOp.or IntKind.i32 (bits BinOp.or IntKind.i32 (bits BinOp.or IntKind.i32 (IntKind.i32.wrap b4) (IntKind.i32.wrap (IntKind.i32.wrap b5 * 256))) (IntKind.i32.wrap (IntKind.i32.wrap b6 * 65536))) (IntKind.i32.wrap (IntKind.i32.wrap b7 * 16777216))))] =
    Value.agg #[.int .i64 b0, .int .i64 (b1 % 16), .int .i64 (b1 / 16), .int .i64 (off16 b2 b3), .int .i64 (imm32 b4 b5 b6 b7)] := by
  have h4 := parse4 b4 b5 b6 b7 rc rd re rf
  simp only [to32] at h4
  exact agg5v ((to64 _).trans (r0 _ r8)) ((to64 _).trans (parse1 b1 r9)) ((to64 _).trans (parse2 b1 r9)) ((to64 _).trans (parse3 b2 b3 ra rb)) ((to64 _).trans h4)
end Go.Proofs.YthibideapapcbaaDoor
