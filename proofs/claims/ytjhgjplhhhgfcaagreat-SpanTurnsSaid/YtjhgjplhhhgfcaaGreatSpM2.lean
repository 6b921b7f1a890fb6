/- The plain mathematics of spans: the rows of the operations, and the first that answers. No program is named. -/
import Derived.Test.YtjhgjplhhhgfcaaGreatSpM1
import Derived.Lib.BitFns
namespace Go.Proofs.YtjhgjplhhhgfcaaGreat.Spn
set_option linter.unusedVariables false

structure Rw where
  a : Int
  b : Int
  j : E → E → Option E
/-- how many bits a number has -/
def lenN (n : Nat) : Nat := Go.Lib.bitLen n
/-- a 1 in all places below the highest one of two numbers that are not below 0 -/
def fillX (a b : Int) : Int := 2 ^ lenN (a.toNat ||| b.toNat) - 1
def sharesX (a b : E) : Option E := if b.lo < 2 then none else some ⟨0, 18446744073709551615 / b.lo⟩
def restX (a b : E) : Option E :=
  let far := max (b.hi - 1) (-(b.lo + 1))
  some ⟨min 0 (max (-far) a.lo), max 0 (min far a.hi)⟩
def alikeX (a b : E) : Option E := if b.lo = b.hi then cornX leftX a b else none
def rowsX (op : Int) : List Rw :=
  if op = 15 then [⟨0, 0, fun _ b => some b⟩] else
  if op = 1 then [⟨0, 0, cornX plusX⟩] else
  if op = 2 then [⟨0, 0, cornX minusX⟩] else
  if op = 3 then [⟨0, 0, cornX timesX⟩] else
  if op = 4 then [⟨1, 5, cornX quotX⟩, ⟨0, 5, sharesX⟩, ⟨0, 2, fun _ _ => some ⟨0, 1⟩⟩] else
  if op = 5 then [⟨1, 2, fun a _ => some a⟩, ⟨1, 5, fun a b => if a.hi < b.lo then some a else none⟩, ⟨1, 5, fun a b => some ⟨0, min a.hi (b.hi - 1)⟩⟩, ⟨0, 5, fun _ b => some ⟨0, b.hi - 1⟩⟩] else
  if op = 6 then [⟨0, 4, cornX quotX⟩] else
  if op = 7 then [⟨0, 4, restX⟩] else
  if op = 9 then [⟨1, 1, fun a b => some ⟨0, min a.hi b.hi⟩⟩, ⟨1, 0, fun a _ => some ⟨0, a.hi⟩⟩, ⟨0, 1, fun _ b => some ⟨0, b.hi⟩⟩, ⟨2, 2, fun a b => some ⟨LEAST, min a.hi b.hi⟩⟩] else
  if op = 8 then [⟨1, 1, fun a b => some ⟨max a.lo b.lo, fillX a.hi b.hi⟩⟩, ⟨2, 2, fun a b => some ⟨max a.lo b.lo, -1⟩⟩, ⟨2, 0, fun a _ => some ⟨a.lo, -1⟩⟩, ⟨0, 2, fun _ b => some ⟨b.lo, -1⟩⟩] else
  if op = 10 then [⟨1, 1, fun a b => some ⟨0, fillX a.hi b.hi⟩⟩] else
  if op = 11 then [⟨0, 0, alikeX⟩, ⟨1, 0, cornX leftX⟩] else
  if op = 12 then [⟨1, 0, cornX rightX⟩, ⟨0, 5, fun _ c => some ⟨0, 2 ^ (64 - c.lo).toNat - 1⟩⟩] else
  if op = 13 then [⟨0, 0, cornX rightX⟩] else []
def firstX : List Rw → Int → Int → E → E → Option E
  | [], _, _, _, _ => none
  | l :: ls, s, t, a, b =>
    if tells s l.a && tells t l.b then
      match l.j a b with
      | some r => some r
      | none => firstX ls s t a b
    else firstX ls s t a b
def answerX (op : Int) (a b : E) : Option E := firstX (rowsX op) (sgX a) (sgX b) a b
/-- a shift's counts, from 0 to h - 1 -/
def countsX (b low : E) (h : Int) : E :=
  if b.lo = b.hi then ⟨b.lo % h, b.lo % h⟩ else if withinB low ⟨0, h - 1⟩ then low else ⟨0, h - 1⟩
def operX (op : Int) (a b c : E) (z : Int) : Int × E × E :=
  if op = 11 ∨ op = 12 ∨ op = 13 then (op, a, c) else if op = 14 then (2, ⟨z, z⟩, a) else (op, a, b)
def wideX (op : Int) (a b : E) : E :=
  let o := operX op a b (countsX b b 64) 0
  (answerX o.1 o.2.1 o.2.2).getD allE
def plainX (op : Int) : Int := if op = 6 then 4 else if op = 7 then 5 else if op = 13 then 12 else op
def halfE : E := ⟨0, 4294967295⟩
def halfX (op : Int) (a b : E) : E :=
  let o := operX op (lowE a) (lowE b) (countsX b (lowE b) 32) 4294967296
  if plainX o.1 ≠ o.1 ∧ (withinB o.2.1 ⟨0, 2147483647⟩ && withinB o.2.2 ⟨0, 2147483647⟩) = false then halfE else
  match answerX (plainX o.1) o.2.1 o.2.2 with
  | some r => if withinB r halfE then r else halfE
  | none => halfE

/-! ### what the rows need of arithmetic -/
theorem fits_some {v r : Int} (h : fits v = some r) : r = v ∧ LEAST ≤ v ∧ v ≤ TOP := by
  unfold fits at h
  split at h
  · exact ⟨(Option.some.inj h).symm, by assumption⟩
  · cases h
theorem fits_in {v : Int} (h : LEAST ≤ v ∧ v ≤ TOP) : fits v = some v := by unfold fits; rw [if_pos h]
/-- what lies between two numbers -/
def Btw (v p q : Int) : Prop := (p ≤ v ∧ v ≤ q) ∨ (q ≤ v ∧ v ≤ p)
theorem Btw.box {v p q lo hi : Int} (h : Btw v p q) (h1 : lo ≤ p) (h2 : p ≤ hi) (h3 : lo ≤ q) (h4 : q ≤ hi) : lo ≤ v ∧ v ≤ hi := by unfold Btw at h; omega
/-- a function that is between its ends' values along each operand lies in the corners -/
theorem corn_has {by_ : Int → Int → Option Int} {f : Int → Int → Int} {a b r : E} {x y : Int}
    (hf : ∀ x y v, by_ x y = some v → v = f x y) (h : cornX by_ a b = some r)
    (h1 : Btw (f x y) (f a.lo y) (f a.hi y)) (h2 : Btw (f a.lo y) (f a.lo b.lo) (f a.lo b.hi)) (h3 : Btw (f a.hi y) (f a.hi b.lo) (f a.hi b.hi)) : r.has (f x y) := by
  unfold cornX at h
  split at h
  · rename_i p q s t e1 e2 e3 e4
    have g1 := hf _ _ _ e1
    have g2 := hf _ _ _ e2
    have g3 := hf _ _ _ e3
    have g4 := hf _ _ _ e4
    cases h
    subst g1 g2 g3 g4
    have b2 := h2.box (lo := min (min (min (f a.lo b.lo) (f a.lo b.hi)) (f a.hi b.lo)) (f a.hi b.hi)) (hi := max (max (max (f a.lo b.lo) (f a.lo b.hi)) (f a.hi b.lo)) (f a.hi b.hi)) (by omega) (by omega) (by omega) (by omega)
    have b3 := h3.box (lo := min (min (min (f a.lo b.lo) (f a.lo b.hi)) (f a.hi b.lo)) (f a.hi b.hi)) (hi := max (max (max (f a.lo b.lo) (f a.lo b.hi)) (f a.hi b.lo)) (f a.hi b.hi)) (by omega) (by omega) (by omega) (by omega)
    exact h1.box b2.1 b2.2 b3.1 b3.2
  · cases h
/-- the corners' answers are numbers of the arithmetic -/
theorem corn_all {by_ : Int → Int → Option Int} {a b r : E} {P : Int → Prop} (h : cornX by_ a b = some r) (hP : ∀ x y v, by_ x y = some v → P v) : P r.lo ∧ P r.hi := by
  unfold cornX at h
  split at h
  · rename_i p q s t e1 e2 e3 e4
    have g1 := hP _ _ _ e1
    have g2 := hP _ _ _ e2
    have g3 := hP _ _ _ e3
    have g4 := hP _ _ _ e4
    cases h
    refine ⟨?_, ?_⟩
    · show P (min (min (min p q) s) t)
      rcases (by omega : min (min (min p q) s) t = p ∨ min (min (min p q) s) t = q ∨ min (min (min p q) s) t = s ∨ min (min (min p q) s) t = t) with e | e | e | e <;> rw [e] <;> assumption
    · show P (max (max (max p q) s) t)
      rcases (by omega : max (max (max p q) s) t = p ∨ max (max (max p q) s) t = q ∨ max (max (max p q) s) t = s ∨ max (max (max p q) s) t = t) with e | e | e | e <;> rw [e] <;> assumption
  · cases h
theorem corn_le {by_ : Int → Int → Option Int} {a b r : E} (h : cornX by_ a b = some r) : r.lo ≤ r.hi := by
  unfold cornX at h
  split at h
  · cases h
    show min _ _ ≤ max _ _
    omega
  · cases h
theorem mono_mul {a b c : Int} (h : a ≤ b) (hc : 0 ≤ c) : a * c ≤ b * c := Int.mul_le_mul_of_nonneg_right h hc
theorem anti_mul {a b c : Int} (h : a ≤ b) (hc : c ≤ 0) : b * c ≤ a * c := Int.mul_le_mul_of_nonpos_right h hc
theorem btw_mul {a b x y : Int} (h1 : a ≤ x) (h2 : x ≤ b) : Btw (x * y) (a * y) (b * y) := by
  rcases Int.le_total 0 y with h | h
  · exact .inl ⟨mono_mul h1 h, mono_mul h2 h⟩
  · exact .inr ⟨anti_mul h2 h, anti_mul h1 h⟩
theorem tdiv_mono {a b c : Int} (h : a ≤ b) (hc : 0 < c) : a.tdiv c ≤ b.tdiv c := Int.tdiv_le_tdiv hc h
theorem btw_tdiv {a b x y : Int} (hy : y ≠ 0) (h1 : a ≤ x) (h2 : x ≤ b) : Btw (x.tdiv y) (a.tdiv y) (b.tdiv y) := by
  rcases Int.lt_or_gt_of_ne hy with h | h
  · have e : ∀ z : Int, z.tdiv y = -(z.tdiv (-y)) := fun z => by rw [Int.tdiv_neg, Int.neg_neg]
    rw [e x, e a, e b]
    have g1 := tdiv_mono h1 (show 0 < -y by omega)
    have g2 := tdiv_mono h2 (show 0 < -y by omega)
    right; omega
  · exact .inl ⟨tdiv_mono h1 h, tdiv_mono h2 h⟩
end Go.Proofs.YtjhgjplhhhgfcaaGreat.Spn
