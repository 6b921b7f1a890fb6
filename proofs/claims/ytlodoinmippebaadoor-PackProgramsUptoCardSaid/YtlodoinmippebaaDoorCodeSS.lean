/- Texts in one: CodeS1 CodeS CodeS2. -/
import Derived.Test.YtlodoinmippebaaDoorCodeM
/- The numbers of a unit's bytes: plain mathematics. -/
namespace Go.Proofs.YtlodoinmippebaaDoor
open Go.RowKit
set_option linter.unusedVariables false

theorem w16 (x : Int) : IntKind.i16.wrap x = (x + 32768) % 65536 - 32768 := by
  simp [IntKind.wrap, IntKind.bits, IntKind.signed]
  split <;> omega
theorem w32 (x : Int) : IntKind.i32.wrap x = (x + 2147483648) % 4294967296 - 2147483648 := IntKind.wrap_i32 x
theorem w32_mod (x : Int) (n : Nat) (h : x = n) (hn : n < 4294967296) : IntKind.i32.wrap x % 4294967296 = (n : Int) := by rw [w32]; omega
theorem or_i16 (x y : Int) (p q : Nat) (hx : x % 65536 = p) (hy : y % 65536 = q) : bits BinOp.or IntKind.i16 x y = IntKind.i16.wrap ((p ||| q : Nat) : Int) := by
  show IntKind.i16.wrap (((BitVec.ofInt 16 x ||| BitVec.ofInt 16 y).toNat : Nat) : Int) = _
  rw [BitVec.toNat_or, BitVec.toNat_ofInt, BitVec.toNat_ofInt]
  have e1 : (x % ((2 ^ 16 : Nat) : Int)).toNat = p := by
    rw [show ((2 ^ 16 : Nat) : Int) = 65536 from rfl, hx]; rfl
  have e2 : (y % ((2 ^ 16 : Nat) : Int)).toNat = q := by
    rw [show ((2 ^ 16 : Nat) : Int) = 65536 from rfl, hy]; rfl
  rw [e1, e2]
theorem or_i32 (x y : Int) (p q : Nat) (hx : x % 4294967296 = p) (hy : y % 4294967296 = q) : bits BinOp.or IntKind.i32 x y = IntKind.i32.wrap ((p ||| q : Nat) : Int) := by
  show IntKind.i32.wrap (((BitVec.ofInt 32 x ||| BitVec.ofInt 32 y).toNat : Nat) : Int) = _
  rw [BitVec.toNat_or, BitVec.toNat_ofInt, BitVec.toNat_ofInt]
  have e1 : (x % ((2 ^ 32 : Nat) : Int)).toNat = p := by
    rw [show ((2 ^ 32 : Nat) : Int) = 4294967296 from rfl, hx]; rfl
  have e2 : (y % ((2 ^ 32 : Nat) : Int)).toNat = q := by
    rw [show ((2 ^ 32 : Nat) : Int) = 4294967296 from rfl, hy]; rfl
  rw [e1, e2]
/-- the number of two bytes with its sign, of four -/
def off16 (a b : Int) : Int := if a + 256 * b < 32768 then a + 256 * b else a + 256 * b - 65536
def imm32 (a b c d : Int) : Int := if a + 256 * b + 65536 * c + 16777216 * d < 2147483648 then a + 256 * b + 65536 * c + 16777216 * d else a + 256 * b + 65536 * c + 16777216 * d - 4294967296
theorem off16_eq (a b : Int) (ha : 0 ≤ a ∧ a < 256) (hb : 0 ≤ b ∧ b < 256) : bits BinOp.or IntKind.i16 (IntKind.i16.wrap a) (IntKind.i16.wrap (IntKind.i16.wrap b * 256)) = off16 a b := by
  obtain ⟨m, rfl⟩ := Int.eq_ofNat_of_zero_le ha.1
  obtain ⟨n, rfl⟩ := Int.eq_ofNat_of_zero_le hb.1
  have e1 : IntKind.i16.wrap (m : Int) = m := by rw [w16]; omega
  have e2 : IntKind.i16.wrap (n : Int) = n := by rw [w16]; omega
  have e3 : IntKind.i16.wrap ((n : Int) * 256) % 65536 = ((n * 256 : Nat) : Int) := by rw [w16]; omega
  rw [e1, e2, or_i16 _ _ m (n * 256) (by omega) e3, Nat.or_comm, nat_join 8 (n * 256) m (by omega) (by omega), w16]
  unfold off16
  split <;> omega
theorem and15 (b : Int) (hb : 0 ≤ b ∧ b < 256) : bits BinOp.and IntKind.u8 b 15 = b % 16 := by
  show IntKind.u8.wrap (((BitVec.ofInt 8 b &&& BitVec.ofInt 8 15).toNat : Nat) : Int) = _
  obtain ⟨m, rfl⟩ := Int.eq_ofNat_of_zero_le hb.1
  rw [BitVec.toNat_and, BitVec.toNat_ofInt, show (BitVec.ofInt 8 15).toNat = 15 by decide]
  have e1 : (((m : Nat) : Int) % ((2 ^ 8 : Nat) : Int)).toNat = m := by rw [show ((2 ^ 8 : Nat) : Int) = 256 from rfl]; omega
  rw [e1, show (15 : Nat) = 2 ^ 4 - 1 by decide, Nat.and_two_pow_sub_one_eq_mod, IntKind.wrap_u8]
  omega
end Go.Proofs.YtlodoinmippebaaDoor
/- The number of four bytes of a unit: plain mathematics. -/
namespace Go.Proofs.YtlodoinmippebaaDoor
open Go.RowKit
set_option linter.unusedVariables false

theorem times_mod (q : Nat) (m : Int) (k : Nat) (hm : m = k) (h : q * k < 4294967296) : IntKind.i32.wrap ((q : Int) * m) % 4294967296 = ((q * k : Nat) : Int) :=
  w32_mod _ _ (by rw [hm]; simp) h
theorem or_at (k : Nat) (x : Int) (u q : Nat) (hx : x % 4294967296 = u) (hu : u < 2 ^ k) (hq : q * 2 ^ k < 4294967296) (m : Int) (hm : m = (2 ^ k : Nat)) :
    bits BinOp.or IntKind.i32 x (IntKind.i32.wrap ((q : Int) * m)) = IntKind.i32.wrap ((q * 2 ^ k + u : Nat) : Int) := by
  rw [or_i32 x _ u (q * 2 ^ k) hx (times_mod q m (2 ^ k) hm hq), Nat.or_comm, nat_join k (q * 2 ^ k) u (Nat.mul_mod_left _ _) hu]
theorem lt8 (q : Nat) (h : q < 256) : q * 2 ^ 8 < 4294967296 := by rw [show 2 ^ 8 = 256 by decide]; omega
theorem lt16 (q : Nat) (h : q < 256) : q * 2 ^ 16 < 4294967296 := by rw [show 2 ^ 16 = 65536 by decide]; omega
theorem lt24 (q : Nat) (h : q < 256) : q * 2 ^ 24 < 4294967296 := by rw [show 2 ^ 24 = 16777216 by decide]; omega
theorem small32 (n : Nat) (h : n < 4294967296) : IntKind.i32.wrap (n : Int) % 4294967296 = (n : Int) := w32_mod _ _ rfl h
theorem byte32 (n : Nat) (h : n < 256) : IntKind.i32.wrap (n : Int) = (n : Int) := by rw [w32]; omega
theorem sum8 (n m : Nat) (hn : n < 256) (hm : m < 256) : n * 2 ^ 8 + m < 2 ^ 16 := by
  rw [show 2 ^ 8 = 256 by decide, show 2 ^ 16 = 65536 by decide]; omega
theorem sum16 (n m : Nat) (hn : n < 256) (hm : m < 2 ^ 16) : n * 2 ^ 16 + m < 2 ^ 24 := by
  rw [show 2 ^ 16 = 65536 by decide] at *; rw [show 2 ^ 24 = 16777216 by decide]; omega
theorem lit16 (n : Nat) (h : n < 2 ^ 16) : n < 4294967296 := by rw [show 2 ^ 16 = 65536 by decide] at h; omega
theorem lit24 (n : Nat) (h : n < 2 ^ 24) : n < 4294967296 := by rw [show 2 ^ 24 = 16777216 by decide] at h; omega
theorem sum32 (m n p q : Nat) : ((q * 2 ^ 24 + (p * 2 ^ 16 + (n * 2 ^ 8 + m)) : Nat) : Int) = (m : Int) + 256 * n + 65536 * p + 16777216 * q := by
  rw [show 2 ^ 8 = 256 by decide, show 2 ^ 16 = 65536 by decide, show 2 ^ 24 = 16777216 by decide]; omega
theorem fold32 (x : Int) (h0 : 0 ≤ x) (h1 : x < 4294967296) : IntKind.i32.wrap x = if x < 2147483648 then x else x - 4294967296 := by
  rw [w32]; split <;> omega
theorem range32 (m n p q : Nat) (hm : m < 256) (hn : n < 256) (hp : p < 256) (hq : q < 256) : (m : Int) + 256 * n + 65536 * p + 16777216 * q < 4294967296 := by omega
theorem imm32_nat (m n p q : Nat) (hm : m < 256) (hn : n < 256) (hp : p < 256) (hq : q < 256) :
    bits BinOp.or IntKind.i32 (bits BinOp.or IntKind.i32 (bits BinOp.or IntKind.i32 (m : Int) (IntKind.i32.wrap ((n : Int) * 256))) (IntKind.i32.wrap ((p : Int) * 65536))) (IntKind.i32.wrap ((q : Int) * 16777216)) = imm32 m n p q := by
  rw [or_at 8 _ m n (by omega) hm (lt8 n hn) 256 rfl,
    or_at 16 _ _ p (small32 _ (lit16 _ (sum8 n m hn hm))) (sum8 n m hn hm) (lt16 p hp) 65536 rfl,
    or_at 24 _ _ q (small32 _ (lit24 _ (sum16 p _ hp (sum8 n m hn hm)))) (sum16 p _ hp (sum8 n m hn hm)) (lt24 q hq) 16777216 rfl,
    sum32, fold32 _ (by omega) (range32 m n p q hm hn hp hq)]
  rfl
theorem imm32_eq (a b c d : Int) (ha : 0 ≤ a ∧ a < 256) (hb : 0 ≤ b ∧ b < 256) (hc : 0 ≤ c ∧ c < 256) (hd : 0 ≤ d ∧ d < 256) :
    bits BinOp.or IntKind.i32 (bits BinOp.or IntKind.i32 (bits BinOp.or IntKind.i32 (IntKind.i32.wrap a) (IntKind.i32.wrap (IntKind.i32.wrap b * 256))) (IntKind.i32.wrap (IntKind.i32.wrap c * 65536))) (IntKind.i32.wrap (IntKind.i32.wrap d * 16777216)) = imm32 a b c d := by
  obtain ⟨m, rfl⟩ := Int.eq_ofNat_of_zero_le ha.1
  obtain ⟨n, rfl⟩ := Int.eq_ofNat_of_zero_le hb.1
  obtain ⟨p, rfl⟩ := Int.eq_ofNat_of_zero_le hc.1
  obtain ⟨q, rfl⟩ := Int.eq_ofNat_of_zero_le hd.1
  have hm := Int.ofNat_lt.mp ha.2
  have hn := Int.ofNat_lt.mp hb.2
  have hp := Int.ofNat_lt.mp hc.2
  have hq := Int.ofNat_lt.mp hd.2
  rw [byte32 m hm, byte32 n hn, byte32 p hp, byte32 q hq]
  exact imm32_nat m n p q hm hn hp hq
end Go.Proofs.YtlodoinmippebaaDoor
/- The values of a unit that is parsed: plain mathematics. -/
namespace Go.Proofs.YtlodoinmippebaaDoor
open Go.RowKit
set_option linter.unusedVariables false

theorem wrap64_small {x : Int} (h1 : -9223372036854775808 ≤ x) (h2 : x < 9223372036854775808) : wrap64 x = x := by unfold wrap64; omega
theorem to32 (x : Int) : wrap32 x = IntKind.i32.wrap x := by rw [IntKind.wrap_i32, wrap32]
theorem agg5 {a b c d e a' b' c' d' e' : Int} (h1 : a = a') (h2 : b = b') (h3 : c = c') (h4 : d = d') (h5 : e = e') :
    Ending.returned (.agg #[.int .i64 a, .int .i64 b, .int .i64 c, .int .i64 d, .int .i64 e]) = Ending.returned (.agg #[.int .i64 a', .int .i64 b', .int .i64 c', .int .i64 d', .int .i64 e']) := by subst h1 h2 h3 h4 h5; rfl
/-- a byte -/
def IsB (x : Int) : Prop := 0 ≤ x ∧ x < 256
theorem r0 (b : Int) (h : IsB b) : wrap64 b = b := by obtain ⟨h1, h2⟩ := h; exact wrap64_small (by omega) (by omega)
theorem parse1 (b : Int) (h : IsB b) : wrap64 (bits BinOp.and IntKind.u8 b 15) = b % 16 := by
  rw [and15 b h]; exact wrap64_small (by omega) (by omega)
theorem parse2 (b : Int) (h : IsB b) : wrap64 (b / 16) = b / 16 := by obtain ⟨h1, h2⟩ := h; exact wrap64_small (by omega) (by omega)
theorem parse3 (a b : Int) (ha : IsB a) (hb : IsB b) : wrap64 (bits BinOp.or IntKind.i16 (IntKind.i16.wrap a) (IntKind.i16.wrap (IntKind.i16.wrap b * 256))) = off16 a b := by
  rw [off16_eq a b ha hb]
  obtain ⟨h1, h2⟩ := ha; obtain ⟨h3, h4⟩ := hb
  refine wrap64_small ?_ ?_ <;> unfold off16 <;> split <;> omega
theorem parse4 (a b c d : Int) (ha : IsB a) (hb : IsB b) (hc : IsB c) (hd : IsB d) : wrap64 (bits BinOp.or IntKind.i32 (bits BinOp.or IntKind.i32 (bits BinOp.or IntKind.i32 (wrap32 a) (wrap32 (wrap32 b * 256))) (wrap32 (wrap32 c * 65536))) (wrap32 (wrap32 d * 16777216))) = imm32 a b c d := by
  simp only [to32]
  rw [imm32_eq a b c d ha hb hc hd]
  obtain ⟨h1, h2⟩ := ha; obtain ⟨h3, h4⟩ := hb; obtain ⟨h5, h6⟩ := hc; obtain ⟨h7, h8⟩ := hd
  refine wrap64_small ?_ ?_ <;> unfold imm32 <;> split <;> omega
theorem to64 (x : Int) : IntKind.i64.wrap x = wrap64 x := by rw [IntKind.wrap_i64, wrap64]
theorem agg5v {a b c d e a' b' c' d' e' : Int} (h1 : a = a') (h2 : b = b') (h3 : c = c') (h4 : d = d') (h5 : e = e') :
    Value.agg #[.int .i64 a, .int .i64 b, .int .i64 c, .int .i64 d, .int .i64 e] = Value.agg #[.int .i64 a', .int .i64 b', .int .i64 c', .int .i64 d', .int .i64 e'] := by subst h1 h2 h3 h4 h5; rfl
theorem unit_parsed (b0 b1 b2 b3 b4 b5 b6 b7 : Int) (r8 : IsB b0) (r9 : IsB b1) (ra : IsB b2) (rb : IsB b3) (rc : IsB b4) (rd : IsB b5) (re : IsB b6) (rf : IsB b7) :
    Value.agg #[.int .i64 (IntKind.i64.wrap b0), .int .i64 (IntKind.i64.wrap (bits BinOp.and IntKind.u8 b1 15)), .int .i64 (IntKind.i64.wrap (b1 / 16)),
      .int .i64 (IntKind.i64.wrap (bits BinOp.or IntKind.i16 (IntKind.i16.wrap b2) (IntKind.i16.wrap (IntKind.i16.wrap b3 * 256)))),
      .int .i64 (IntKind.i64.wrap (bits BinOp.or IntKind.i32 (bits BinOp.or IntKind.i32 (bits BinOp.or IntKind.i32 (IntKind.i32.wrap b4) (IntKind.i32.wrap (IntKind.i32.wrap b5 * 256))) (IntKind.i32.wrap (IntKind.i32.wrap b6 * 65536))) (IntKind.i32.wrap (IntKind.i32.wrap b7 * 16777216))))] =
    Value.agg #[.int .i64 b0, .int .i64 (b1 % 16), .int .i64 (b1 / 16), .int .i64 (off16 b2 b3), .int .i64 (imm32 b4 b5 b6 b7)] := by
  have h4 := parse4 b4 b5 b6 b7 rc rd re rf
  simp only [to32] at h4
  exact agg5v ((to64 _).trans (r0 _ r8)) ((to64 _).trans (parse1 b1 r9)) ((to64 _).trans (parse2 b1 r9)) ((to64 _).trans (parse3 b2 b3 ra rb)) ((to64 _).trans h4)
end Go.Proofs.YtlodoinmippebaaDoor
