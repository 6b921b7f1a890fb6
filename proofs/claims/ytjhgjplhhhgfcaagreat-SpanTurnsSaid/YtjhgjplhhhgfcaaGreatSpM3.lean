/- The plain mathematics of spans: each row holds what the arithmetic makes of numbers between the ends. No program is named. -/
import Derived.Test.YtjhgjplhhhgfcaaGreatSpM2
import Derived.IntWalk
namespace Go.Proofs.YtjhgjplhhhgfcaaGreat.Spn
set_option linter.unusedVariables false
open Go Go.RowKit

theorem w64_id {x : Int} (h : LEAST ≤ x ∧ x ≤ TOP) : wrap64 x = x := by unfold LEAST TOP at h; unfold wrap64; omega
theorem w64_in (x : Int) : LEAST ≤ wrap64 x ∧ wrap64 x ≤ TOP := by unfold LEAST TOP wrap64; omega
def I64 (x : Int) : Prop := LEAST ≤ x ∧ x ≤ TOP
theorem has64 {r : E} {v : Int} (h : r.ok) (hv : r.has v) : I64 v := ⟨Int.le_trans h.2.1 hv.1, Int.le_trans hv.2 h.2.2⟩
/-- what a row's answer must be: sane, and it holds the number -/
def Good (r : E) (v : Int) : Prop := r.ok ∧ r.has v
theorem fits_I64 {v r : Int} (h : fits v = some r) : I64 r := by obtain ⟨rfl, h1⟩ := fits_some h; exact h1
theorem Good.wrap {r : E} {v : Int} (h : Good r v) : Good r (wrap64 v) := by rw [w64_id (has64 h.1 h.2)]; exact h
theorem corn_good {by_ : Int → Int → Option Int} {f : Int → Int → Int} {a b r : E} {x y : Int} (h : cornX by_ a b = some r)
    (hf : ∀ x y v, by_ x y = some v → v = f x y ∧ I64 v)
    (h1 : Btw (f x y) (f a.lo y) (f a.hi y)) (h2 : Btw (f a.lo y) (f a.lo b.lo) (f a.lo b.hi)) (h3 : Btw (f a.hi y) (f a.hi b.lo) (f a.hi b.hi)) : Good r (f x y) := by
  have hi := corn_all (P := I64) h fun x y v e => (hf x y v e).2
  exact ⟨⟨corn_le h, hi.1.1, hi.2.2⟩, corn_has (fun x y v e => (hf x y v e).1) h h1 h2 h3⟩
theorem g_add {a b r : E} {x y : Int} (h : cornX plusX a b = some r) (hx : a.has x) (hy : b.has y) : Good r (x + y) := by
  obtain ⟨x1, x2⟩ := hx
  obtain ⟨y1, y2⟩ := hy
  refine corn_good (f := fun x y => x + y) h (fun x y v e => ⟨(fits_some e).1, fits_I64 e⟩) ?_ ?_ ?_ <;> (left; constructor <;> omega)
theorem g_sub {a b r : E} {x y : Int} (h : cornX minusX a b = some r) (hx : a.has x) (hy : b.has y) : Good r (x - y) := by
  obtain ⟨x1, x2⟩ := hx
  obtain ⟨y1, y2⟩ := hy
  refine corn_good (f := fun x y => x - y) h (fun x y v e => ⟨(fits_some e).1, fits_I64 e⟩) ?_ ?_ ?_
  · left; constructor <;> omega
  · right; constructor <;> omega
  · right; constructor <;> omega
theorem g_mul {a b r : E} {x y : Int} (h : cornX timesX a b = some r) (hx : a.has x) (hy : b.has y) : Good r (x * y) := by
  obtain ⟨x1, x2⟩ := hx
  obtain ⟨y1, y2⟩ := hy
  have hc : ∀ z, Btw (z * y) (z * b.lo) (z * b.hi) := fun z => by rw [Int.mul_comm z y, Int.mul_comm z b.lo, Int.mul_comm z b.hi]; exact btw_mul y1 y2
  exact corn_good (f := fun x y => x * y) h (fun x y v e => ⟨(fits_some e).1, fits_I64 e⟩) (btw_mul x1 x2) (hc _) (hc _)
theorem tdiv_nat (m n : Nat) : (m : Int).tdiv n = ((m / n : Nat) : Int) := by rw [Int.tdiv_eq_ediv_of_nonneg (by omega)]; rfl
theorem tdiv_anti {z c d : Int} (hz : 0 ≤ z) (hc : 0 < c) (h : c ≤ d) : z.tdiv d ≤ z.tdiv c := by
  obtain ⟨m, rfl⟩ := Int.eq_ofNat_of_zero_le hz
  obtain ⟨n, rfl⟩ := Int.eq_ofNat_of_zero_le (Int.le_of_lt hc)
  obtain ⟨k, rfl⟩ := Int.eq_ofNat_of_zero_le (Int.le_trans (Int.le_of_lt hc) h)
  rw [tdiv_nat, tdiv_nat]
  have := Nat.div_le_div_left (a := m) (c := n) (b := k) (by omega) (by omega)
  omega
theorem btw_div_pos {z y c d : Int} (hc : 0 < c) (h1 : c ≤ y) (h2 : y ≤ d) : Btw (z.tdiv y) (z.tdiv c) (z.tdiv d) := by
  rcases Int.le_total 0 z with h | h
  · exact .inr ⟨tdiv_anti h (by omega) h2, tdiv_anti h hc h1⟩
  · have e : ∀ w : Int, z.tdiv w = -((-z).tdiv w) := fun w => by rw [Int.neg_tdiv, Int.neg_neg]
    rw [e y, e c, e d]
    have g1 := tdiv_anti (z := -z) (by omega) (show 0 < y by omega) h2
    have g2 := tdiv_anti (z := -z) (by omega) hc h1
    left; omega
theorem btw_div {z y c d : Int} (hs : 0 < c ∨ d < 0) (h1 : c ≤ y) (h2 : y ≤ d) : Btw (z.tdiv y) (z.tdiv c) (z.tdiv d) := by
  rcases hs with h | h
  · exact btw_div_pos h h1 h2
  · have e : ∀ w : Int, z.tdiv w = -(z.tdiv (-w)) := fun w => by rw [Int.tdiv_neg, Int.neg_neg]
    rw [e y, e c, e d]
    have := btw_div_pos (z := z) (y := -y) (c := -d) (d := -c) (by omega) (by omega) (by omega)
    unfold Btw at *
    omega
theorem g_quot {a b r : E} {x y : Int} (h : cornX quotX a b = some r) (hb : 0 < b.lo ∨ b.hi < 0) (hx : a.has x) (hy : b.has y) : Good r (x.tdiv y) := by
  obtain ⟨x1, x2⟩ := hx
  obtain ⟨y1, y2⟩ := hy
  exact corn_good (f := fun x y => x.tdiv y) h (fun x y v e => ⟨(fits_some e).1, fits_I64 e⟩) (btw_tdiv (by omega) x1 x2) (btw_div hb y1 y2) (btw_div hb y1 y2)
/-! ### shifts -/
theorem pow2_pos (k : Nat) : (0 : Int) < 2 ^ k := Int.pow_pos (by decide)
theorem pow2_le {j k : Nat} (h : j ≤ k) : (2 : Int) ^ j ≤ 2 ^ k := by
  have := Nat.pow_le_pow_right (show 0 < 2 by decide) h
  have e : ∀ n : Nat, ((2 ^ n : Nat) : Int) = 2 ^ n := fun n => by simp
  rw [← e, ← e]; omega
theorem g_left {a c r : E} {x y : Int} (h : cornX leftX a c = some r) (hs : 0 ≤ a.lo ∨ c.lo = c.hi) (hx : a.has x) (hy : c.has y) : Good r (x * 2 ^ y.toNat) := by
  obtain ⟨x1, x2⟩ := hx
  obtain ⟨y1, y2⟩ := hy
  have hm : ∀ z, 0 ≤ z → Btw (z * 2 ^ y.toNat) (z * 2 ^ c.lo.toNat) (z * 2 ^ c.hi.toNat) := fun z hz =>
    .inl ⟨Int.mul_le_mul_of_nonneg_left (pow2_le (by omega)) hz, Int.mul_le_mul_of_nonneg_left (pow2_le (by omega)) hz⟩
  have hs' : ∀ z, c.lo = c.hi → Btw (z * 2 ^ y.toNat) (z * 2 ^ c.lo.toNat) (z * 2 ^ c.hi.toNat) := fun z e => by
    obtain rfl : y = c.lo := by omega
    exact .inl ⟨Int.le_refl _, by rw [← e]; exact Int.le_refl _⟩
  refine corn_good (f := fun x y => x * 2 ^ y.toNat) h (fun x y v e => ⟨(fits_some e).1, fits_I64 e⟩) (.inl ⟨mono_mul x1 (Int.le_of_lt (pow2_pos _)), mono_mul x2 (Int.le_of_lt (pow2_pos _))⟩) ?_ ?_
  · rcases hs with h | h
    · exact hm _ h
    · exact hs' _ h
  · rcases hs with h | h
    · exact hm _ (by omega)
    · exact hs' _ h
theorem ediv_pow_anti {z : Int} {j k : Nat} (hz : 0 ≤ z) (h : j ≤ k) : z / 2 ^ k ≤ z / 2 ^ j := by
  have hp := pow2_pos j
  have hq := pow2_pos k
  rw [Int.le_ediv_iff_mul_le hp]
  have h1 : z / 2 ^ k * 2 ^ j ≤ z / 2 ^ k * 2 ^ k := Int.mul_le_mul_of_nonneg_left (pow2_le h) (Int.ediv_nonneg hz (Int.le_of_lt hq))
  have h2 := Int.ediv_mul_le z (Int.ne_of_gt hq)
  omega
theorem ediv_pow_mono {z : Int} {j k : Nat} (hz : z ≤ 0) (h : j ≤ k) : z / 2 ^ j ≤ z / 2 ^ k := by
  have hp := pow2_pos j
  have hq := pow2_pos k
  rw [Int.le_ediv_iff_mul_le hq]
  have h0 : z / 2 ^ j ≤ 0 := by
    rcases Int.le_total 0 (z / 2 ^ j) with g | g
    · have := Int.ediv_mul_le z (Int.ne_of_gt hp)
      rcases (by omega : 0 < z / 2 ^ j ∨ z / 2 ^ j ≤ 0) with g' | g'
      · have : 0 < z / 2 ^ j * 2 ^ j := Int.mul_pos g' hp
        omega
      · exact g'
    · exact g
  have h1 : z / 2 ^ j * 2 ^ k ≤ z / 2 ^ j * 2 ^ j := Int.mul_le_mul_of_nonpos_left h0 (pow2_le h)
  have h2 := Int.ediv_mul_le z (Int.ne_of_gt hp)
  omega
theorem g_right {a c r : E} {x y : Int} (h : cornX rightX a c = some r) (ha : a.ok) (hx : a.has x) (hy : c.has y) : Good r (x / 2 ^ y.toNat) := by
  obtain ⟨x1, x2⟩ := hx
  obtain ⟨y1, y2⟩ := hy
  have hp := pow2_pos y.toNat
  have hm : ∀ z, Btw (z / 2 ^ y.toNat) (z / 2 ^ c.lo.toNat) (z / 2 ^ c.hi.toNat) := fun z => by
    rcases Int.le_total 0 z with hz | hz
    · exact .inr ⟨ediv_pow_anti hz (by omega), ediv_pow_anti hz (by omega)⟩
    · exact .inl ⟨ediv_pow_mono hz (by omega), ediv_pow_mono hz (by omega)⟩
  have hf : ∀ x y v, rightX x y = some v → v = x / 2 ^ y.toNat := fun x y v e => (Option.some.inj e).symm
  have hh := corn_has (f := fun x y => x / 2 ^ y.toNat) hf h (.inl ⟨Int.ediv_le_ediv hp x1, Int.ediv_le_ediv hp x2⟩) (hm _) (hm _)
  refine ⟨⟨corn_le h, ?_⟩, hh⟩
  have hb : ∀ z, I64 z → ∀ k : Nat, I64 (z / 2 ^ k) := fun z ⟨g1, g2⟩ k => by
    rcases Int.le_total 0 z with hz | hz
    · have := ediv_pow_anti hz (Nat.zero_le k)
      have := Int.ediv_nonneg hz (Int.le_of_lt (pow2_pos k))
      rw [Int.pow_zero, Int.ediv_one] at *
      unfold I64 LEAST TOP at *; omega
    · have g3 := ediv_pow_mono hz (Nat.zero_le k)
      have g4 : z / 2 ^ k ≤ 0 / 2 ^ k := Int.ediv_le_ediv (pow2_pos k) hz
      rw [Int.pow_zero, Int.ediv_one] at *
      rw [Int.zero_ediv] at g4
      unfold I64 LEAST TOP at *; omega
  unfold cornX rightX at h
  simp only [Option.some.injEq] at h
  subst h
  have i1 := hb a.lo ⟨ha.2.1, by have := ha.1; have := ha.2.2; omega⟩
  have i2 := hb a.hi ⟨by have := ha.1; have := ha.2.1; omega, ha.2.2⟩
  have j1 := i1 c.lo.toNat
  have j2 := i1 c.hi.toNat
  have j3 := i2 c.lo.toNat
  have j4 := i2 c.hi.toNat
  unfold I64 at j1 j2 j3 j4
  constructor
  · show LEAST ≤ min _ _; omega
  · show max _ _ ≤ TOP; omega
end Go.Proofs.YtjhgjplhhhgfcaaGreat.Spn
