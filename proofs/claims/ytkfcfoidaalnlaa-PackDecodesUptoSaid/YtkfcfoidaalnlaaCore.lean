/- Texts in one: Bits Bytes Row Row2 Word Own Ext Put Copy. -/
import Derived.WalkKit
import Derived.Test.YtkfcfoidaalnlaaRows
import Derived.ProofKit
import Derived.OpenShut
import Derived.Lib.Hide
import Derived.Deep.QuietTactic
import Derived.BigQuiet
import Derived.Below
import Derived.Laws.OwnMore
import Derived.Laws.Rows
import Derived.Deep.AppendLies
import Derived.Deep.Draws
import Derived.Maps.AppendAt
import Derived.RegionTactic
import Derived.OwnWalk
import Derived.Laws.BytesArg
/- Rows of bits, plain mathematics: the bits of a number, and the number that a row of bits is. No program is named. -/
namespace Go.Proofs.Ytkfcfoidaalnlaa.Bits

/-- the lowest k bits of a number, the lowest first -/
def bitsL (v : Int) (k : Nat) : List Int := (List.range k).map fun i => v / 2 ^ i % 2
/-- the number that a row of bits is -/
def valL : List Int → Int
  | [] => 0
  | b :: t => b + 2 * valL t

theorem bitsL_length (v : Int) (k : Nat) : (bitsL v k).length = k := by simp [bitsL]
theorem bitsL_get (v : Int) (k i : Nat) (h : i < k) : (bitsL v k)[i]? = some (v / 2 ^ i % 2) := by
  simp [bitsL, h]
theorem bitsL_succ (v : Int) (k : Nat) : bitsL v (k + 1) = (v % 2) :: bitsL (v / 2) k := by
  unfold bitsL
  rw [List.range_succ_eq_map]
  simp only [List.map_cons, List.map_map, Int.pow_zero, Int.ediv_one]
  congr 1
  apply List.map_congr_left
  intro i _
  simp only [Function.comp]
  rw [Int.pow_succ', ← Int.ediv_ediv_of_nonneg (by decide : (0:Int) ≤ 2)]
theorem valL_bits (v : Int) (k : Nat) : valL (bitsL v k) = v % 2 ^ k := by
  induction k generalizing v with
  | zero => simp [bitsL, valL, Int.emod_one]
  | succ k ih =>
    rw [bitsL_succ, valL, ih]
    rw [Int.pow_succ']
    have hp : (0 : Int) < 2 ^ k := Int.pow_pos (by decide)
    rw [Int.emod_def v (2 * 2 ^ k), Int.emod_def (v / 2) (2 ^ k), ← Int.ediv_ediv_of_nonneg (by decide : (0:Int) ≤ 2)]
    have := Int.emod_def v 2
    rw [Int.mul_assoc]
    omega
theorem valL_append (a b : List Int) : valL (a ++ b) = valL a + 2 ^ a.length * valL b := by
  induction a with
  | nil => simp [valL]
  | cons x t ih => simp only [List.cons_append, valL, ih, List.length_cons, Int.pow_succ']; rw [Int.mul_add, ← Int.mul_assoc, Int.add_assoc]
/-- all are bits -/
def Bit (l : List Int) : Prop := ∀ x ∈ l, x = 0 ∨ x = 1
theorem valL_nonneg {l : List Int} (h : Bit l) : 0 ≤ valL l ∧ valL l < 2 ^ l.length := by
  induction l with
  | nil => simp [valL]
  | cons x t ih =>
    have hx := h x (by simp)
    have ht := ih (fun y hy => h y (by simp [hy]))
    simp only [valL, List.length_cons, Int.pow_succ']
    omega
theorem bit_bits (v : Int) (k : Nat) : Bit (bitsL v k) := by
  intro x hx
  simp only [bitsL, List.mem_map] at hx
  obtain ⟨i, _, rfl⟩ := hx
  omega
theorem bits_of_val {l : List Int} (h : Bit l) : bitsL (valL l) l.length = l := by
  induction l with
  | nil => rfl
  | cons x t ih =>
    have hx := h x (by simp)
    have ht := ih (fun y hy => h y (by simp [hy]))
    rw [List.length_cons, bitsL_succ, valL]
    rw [show (x + 2 * valL t) % 2 = x by omega, show (x + 2 * valL t) / 2 = valL t by omega, ht]
theorem valL_inj {a b : List Int} (ha : Bit a) (hb : Bit b) (hl : a.length = b.length) (h : valL a = valL b) : a = b := by
  rw [← bits_of_val ha, ← bits_of_val hb, h, hl]
end Go.Proofs.Ytkfcfoidaalnlaa.Bits
/- The bytes of a number, plain mathematics: what turning all eight of them comes to. No program is named. -/
namespace Go.Proofs.Ytkfcfoidaalnlaa.Bits

def bt (i x : Nat) : Nat := x / 2 ^ (8 * i) % 2 ^ 8
theorem bt_and (i x y : Nat) : bt i (x &&& y) = bt i x &&& bt i y := by
  unfold bt; rw [Nat.and_div_two_pow, Nat.and_mod_two_pow]
theorem bt_or (i x y : Nat) : bt i (x ||| y) = bt i x ||| bt i y := by
  unfold bt; rw [Nat.or_div_two_pow, Nat.or_mod_two_pow]
theorem bt_lt (i x : Nat) : bt i x < 256 := by unfold bt; exact Nat.mod_lt _ (by decide)
theorem bt_255 (i x : Nat) : bt i x &&& 255 = bt i x := by
  have := Nat.and_two_pow_sub_one_eq_mod (bt i x) 8
  simp only [Nat.reducePow, Nat.reduceSub] at this
  rw [this, Nat.mod_eq_of_lt (bt_lt i x)]
theorem bt_shr (i j x : Nat) : bt i (x / 2 ^ (8 * j)) = bt (i + j) x := by
  unfold bt; rw [Nat.div_div_eq_div_mul, ← Nat.pow_add, Nat.mul_add, Nat.add_comm (8 * j)]
theorem bt_mod (i x : Nat) (h : i < 8) : bt i (x % 2 ^ 64) = bt i x := by
  unfold bt
  rw [show 64 = 8 * i + (64 - 8 * i) by omega, Nat.pow_add, Nat.mod_mul_right_div_self]
  rw [show 64 - 8 * i = 8 + (56 - 8 * i) by omega, Nat.pow_add, Nat.mod_mul_right_mod]
theorem bt_shl_hi (i j x : Nat) : bt (i + j) (x * 2 ^ (8 * j)) = bt i x := by
  unfold bt
  rw [Nat.mul_add, Nat.pow_add, Nat.mul_comm (2 ^ (8 * i)), ← Nat.div_div_eq_div_mul, Nat.mul_div_cancel _ (Nat.pow_pos (by decide))]
theorem bt_shl_lo (i j x : Nat) (h : i < j) : bt i (x * 2 ^ (8 * j)) = 0 := by
  unfold bt
  have e : x * 2 ^ (8 * j) = x * 2 ^ (8 * j - 8 * i - 8) * 2 ^ 8 * 2 ^ (8 * i) := by
    rw [Nat.mul_assoc, Nat.mul_assoc, ← Nat.pow_add, ← Nat.pow_add]
    congr 2; omega
  rw [e, Nat.mul_div_cancel _ (Nat.pow_pos (by decide)), Nat.mul_mod_left]
theorem bt_ext {x y : Nat} (hx : x < 2 ^ 64) (hy : y < 2 ^ 64) (h : ∀ i, i < 8 → bt i x = bt i y) : x = y := by
  have h0 := h 0 (by decide); have h1 := h 1 (by decide); have h2 := h 2 (by decide); have h3 := h 3 (by decide)
  have h4 := h 4 (by decide); have h5 := h 5 (by decide); have h6 := h 6 (by decide); have h7 := h 7 (by decide)
  simp only [bt, Nat.reducePow, Nat.reduceMul] at *
  omega

/-- the lowest n bytes of x back to front -/
def revN : Nat → Nat → Nat
  | 0, _ => 0
  | n + 1, x => bt n x + 256 * revN n x
theorem rev8_eq (x : Nat) : revN 8 x = bt 7 x + 256 * (bt 6 x + 256 * (bt 5 x + 256 * (bt 4 x + 256 * (bt 3 x + 256 * (bt 2 x + 256 * (bt 1 x + 256 * bt 0 x)))))) := rfl
theorem revN_lt (n x : Nat) : revN n x < 256 ^ n := by
  induction n with
  | zero => simp [revN]
  | succ n ih => have := bt_lt n x; rw [revN, Nat.pow_succ]; omega
theorem bt_of8 (b0 b1 b2 b3 b4 b5 b6 b7 : Nat) (h0 : b0 < 256) (h1 : b1 < 256) (h2 : b2 < 256) (h3 : b3 < 256) (h4 : b4 < 256) (h5 : b5 < 256) (h6 : b6 < 256) (h7 : b7 < 256) (y : Nat)
    (hy : y = b7 + 256 * (b6 + 256 * (b5 + 256 * (b4 + 256 * (b3 + 256 * (b2 + 256 * (b1 + 256 * b0))))))) :
    bt 0 y = b7 ∧ bt 1 y = b6 ∧ bt 2 y = b5 ∧ bt 3 y = b4 ∧ bt 4 y = b3 ∧ bt 5 y = b2 ∧ bt 6 y = b1 ∧ bt 7 y = b0 := by
  simp only [bt, Nat.reducePow, Nat.reduceMul]; omega
theorem bt_rev8 (x i : Nat) (h : i < 8) : bt i (revN 8 x) = bt (7 - i) x := by
  obtain ⟨h0, h1, h2, h3, h4, h5, h6, h7⟩ := bt_of8 _ _ _ _ _ _ _ _ (bt_lt 0 x) (bt_lt 1 x) (bt_lt 2 x) (bt_lt 3 x) (bt_lt 4 x) (bt_lt 5 x) (bt_lt 6 x) (bt_lt 7 x) _ (rev8_eq x)
  match i, h with
  | 0, _ => exact h0
  | 1, _ => exact h1
  | 2, _ => exact h2
  | 3, _ => exact h3
  | 4, _ => exact h4
  | 5, _ => exact h5
  | 6, _ => exact h6
  | 7, _ => exact h7

def rv1 (x : Nat) : Nat := (x / 256 &&& 71777214294589695) ||| ((x &&& 71777214294589695) * 256 % 18446744073709551616)
def rv2 (x : Nat) : Nat := (x / 65536 &&& 281470681808895) ||| ((x &&& 281470681808895) * 65536 % 18446744073709551616)
def rv3 (x : Nat) : Nat := (x / 4294967296) ||| (x * 4294967296 % 18446744073709551616)

theorem bt_hi (i x : Nat) (hi : 8 ≤ i) (hx : x < 2 ^ 64) : bt i x = 0 := by
  unfold bt
  have : x / 2 ^ (8 * i) = 0 := Nat.div_eq_of_lt (Nat.lt_of_lt_of_le hx (Nat.pow_le_pow_right (by decide) (by omega)))
  rw [this]

theorem bt_rv1 (i x : Nat) (hi : i < 8) : bt i (rv1 x) = if i % 2 = 0 then bt (i + 1) x else bt (i - 1) x := by
  have e1 : x / 256 = x / 2 ^ (8 * 1) := rfl
  have e2 : ∀ y, y * 256 = y * 2 ^ (8 * 1) := fun _ => rfl
  have e3 : (18446744073709551616 : Nat) = 2 ^ 64 := rfl
  unfold rv1
  rw [bt_or, bt_and, e1, bt_shr, e3, bt_mod _ _ hi, e2]
  match i, hi with
  | 0, _ => rw [bt_shl_lo _ _ _ (by decide)]; show (bt 1 x &&& 255) ||| 0 = _; rw [bt_255, Nat.or_zero]; rfl
  | 1, _ => rw [show (1:Nat) = 0 + 1 from rfl, bt_shl_hi, bt_and]; show (bt 2 x &&& 0) ||| (bt 0 x &&& 255) = _; rw [bt_255, Nat.and_zero, Nat.zero_or]; rfl
  | 2, _ => rw [show (2:Nat) = 1 + 1 from rfl, bt_shl_hi, bt_and]; show (bt 3 x &&& 255) ||| (bt 1 x &&& 0) = _; rw [bt_255, Nat.and_zero, Nat.or_zero]; rfl
  | 3, _ => rw [show (3:Nat) = 2 + 1 from rfl, bt_shl_hi, bt_and]; show (bt 4 x &&& 0) ||| (bt 2 x &&& 255) = _; rw [bt_255, Nat.and_zero, Nat.zero_or]; rfl
  | 4, _ => rw [show (4:Nat) = 3 + 1 from rfl, bt_shl_hi, bt_and]; show (bt 5 x &&& 255) ||| (bt 3 x &&& 0) = _; rw [bt_255, Nat.and_zero, Nat.or_zero]; rfl
  | 5, _ => rw [show (5:Nat) = 4 + 1 from rfl, bt_shl_hi, bt_and]; show (bt 6 x &&& 0) ||| (bt 4 x &&& 255) = _; rw [bt_255, Nat.and_zero, Nat.zero_or]; rfl
  | 6, _ => rw [show (6:Nat) = 5 + 1 from rfl, bt_shl_hi, bt_and]; show (bt 7 x &&& 255) ||| (bt 5 x &&& 0) = _; rw [bt_255, Nat.and_zero, Nat.or_zero]; rfl
  | 7, _ => rw [show (7:Nat) = 6 + 1 from rfl, bt_shl_hi, bt_and]; show (bt 8 x &&& 0) ||| (bt 6 x &&& 255) = _; rw [bt_255, Nat.and_zero, Nat.zero_or]; rfl

theorem bt_rv2 (i x : Nat) (hi : i < 8) : bt i (rv2 x) = if i % 4 < 2 then bt (i + 2) x else bt (i - 2) x := by
  have e1 : x / 65536 = x / 2 ^ (8 * 2) := rfl
  have e2 : ∀ y, y * 65536 = y * 2 ^ (8 * 2) := fun _ => rfl
  have e3 : (18446744073709551616 : Nat) = 2 ^ 64 := rfl
  unfold rv2
  rw [bt_or, bt_and, e1, bt_shr, e3, bt_mod _ _ hi, e2]
  match i, hi with
  | 0, _ => rw [bt_shl_lo _ _ _ (by decide)]; show (bt 2 x &&& 255) ||| 0 = _; rw [bt_255, Nat.or_zero]; rfl
  | 1, _ => rw [bt_shl_lo _ _ _ (by decide)]; show (bt 3 x &&& 255) ||| 0 = _; rw [bt_255, Nat.or_zero]; rfl
  | 2, _ => rw [show (2:Nat) = 0 + 2 from rfl, bt_shl_hi, bt_and]; show (bt 4 x &&& 0) ||| (bt 0 x &&& 255) = _; rw [bt_255, Nat.and_zero, Nat.zero_or]; rfl
  | 3, _ => rw [show (3:Nat) = 1 + 2 from rfl, bt_shl_hi, bt_and]; show (bt 5 x &&& 0) ||| (bt 1 x &&& 255) = _; rw [bt_255, Nat.and_zero, Nat.zero_or]; rfl
  | 4, _ => rw [show (4:Nat) = 2 + 2 from rfl, bt_shl_hi, bt_and]; show (bt 6 x &&& 255) ||| (bt 2 x &&& 0) = _; rw [bt_255, Nat.and_zero, Nat.or_zero]; rfl
  | 5, _ => rw [show (5:Nat) = 3 + 2 from rfl, bt_shl_hi, bt_and]; show (bt 7 x &&& 255) ||| (bt 3 x &&& 0) = _; rw [bt_255, Nat.and_zero, Nat.or_zero]; rfl
  | 6, _ => rw [show (6:Nat) = 4 + 2 from rfl, bt_shl_hi, bt_and]; show (bt 8 x &&& 0) ||| (bt 4 x &&& 255) = _; rw [bt_255, Nat.and_zero, Nat.zero_or]; rfl
  | 7, _ => rw [show (7:Nat) = 5 + 2 from rfl, bt_shl_hi, bt_and]; show (bt 9 x &&& 0) ||| (bt 5 x &&& 255) = _; rw [bt_255, Nat.and_zero, Nat.zero_or]; rfl

theorem bt_rv3 (i x : Nat) (hx : x < 2 ^ 64) (hi : i < 8) : bt i (rv3 x) = if i < 4 then bt (i + 4) x else bt (i - 4) x := by
  have e1 : x / 4294967296 = x / 2 ^ (8 * 4) := rfl
  have e2 : ∀ y, y * 4294967296 = y * 2 ^ (8 * 4) := fun _ => rfl
  have e3 : (18446744073709551616 : Nat) = 2 ^ 64 := rfl
  unfold rv3
  rw [bt_or, e1, bt_shr, e3, bt_mod _ _ hi, e2]
  by_cases h4 : i < 4
  · rw [bt_shl_lo _ _ _ h4, Nat.or_zero, if_pos h4]
  · obtain ⟨j, rfl⟩ : ∃ j, i = j + 4 := ⟨i - 4, by omega⟩
    rw [bt_shl_hi, bt_hi _ _ (by omega) hx, Nat.zero_or, if_neg h4, Nat.add_sub_cancel]

theorem rv2_lt (x : Nat) : rv2 x < 2 ^ 64 :=
  Nat.or_lt_two_pow (Nat.lt_of_le_of_lt Nat.and_le_right (by decide)) (Nat.mod_lt _ (by decide))
theorem rv3_lt (x : Nat) (hx : x < 2 ^ 64) : rv3 x < 2 ^ 64 :=
  Nat.or_lt_two_pow (Nat.lt_of_le_of_lt (Nat.div_le_self _ _) hx) (Nat.mod_lt _ (by decide))

/-- what the library's three exchanges come to -/
theorem rv_eq (x : Nat) : rv3 (rv2 (rv1 x)) = revN 8 x := by
  refine bt_ext (rv3_lt _ (rv2_lt _)) (Nat.lt_of_lt_of_le (revN_lt 8 x) (by decide)) fun i hi => ?_
  rw [bt_rv3 i _ (rv2_lt _) hi, bt_rev8 x i hi]
  match i, hi with
  | 0, _ => rw [if_pos (by decide), bt_rv2 _ _ (by decide), if_pos (by decide), bt_rv1 _ _ (by decide), if_pos (by decide)]
  | 1, _ => rw [if_pos (by decide), bt_rv2 _ _ (by decide), if_pos (by decide), bt_rv1 _ _ (by decide), if_neg (by decide)]
  | 2, _ => rw [if_pos (by decide), bt_rv2 _ _ (by decide), if_neg (by decide), bt_rv1 _ _ (by decide), if_pos (by decide)]
  | 3, _ => rw [if_pos (by decide), bt_rv2 _ _ (by decide), if_neg (by decide), bt_rv1 _ _ (by decide), if_neg (by decide)]
  | 4, _ => rw [if_neg (by decide), bt_rv2 _ _ (by decide), if_pos (by decide), bt_rv1 _ _ (by decide), if_pos (by decide)]
  | 5, _ => rw [if_neg (by decide), bt_rv2 _ _ (by decide), if_pos (by decide), bt_rv1 _ _ (by decide), if_neg (by decide)]
  | 6, _ => rw [if_neg (by decide), bt_rv2 _ _ (by decide), if_neg (by decide), bt_rv1 _ _ (by decide), if_pos (by decide)]
  | 7, _ => rw [if_neg (by decide), bt_rv2 _ _ (by decide), if_neg (by decide), bt_rv1 _ _ (by decide), if_neg (by decide)]

/-- the bytes that stand above m bytes of zeros -/
theorem revN_shift (n m x : Nat) (h : n + m ≤ 8) : revN (n + m) (x * 2 ^ (8 * m) % 2 ^ 64) = revN n x := by
  have hz : ∀ k, k ≤ m → revN k (x * 2 ^ (8 * m) % 2 ^ 64) = 0 := by
    intro k
    induction k with
    | zero => intro _; rfl
    | succ k ih =>
      intro hk
      rw [revN, ih (by omega), bt_mod _ _ (by omega), bt_shl_lo _ _ _ (by omega)]
  induction n with
  | zero => rw [Nat.zero_add, hz m (Nat.le_refl _)]; rfl
  | succ n ih =>
    rw [show n + 1 + m = (n + m) + 1 by omega, revN, revN, ih (by omega), bt_mod _ _ (by omega), bt_shl_hi]
end Go.Proofs.Ytkfcfoidaalnlaa.Bits
/- Contracts of the document's rows of bits: row, number, signed, width. -/
namespace Go.Proofs.Ytkfcfoidaalnlaa
open Go.ChangeShapes Go.WideShapes Go.ChangeAt Go.RowKit
open Bits

/-- the slice's cells, in world w, are these ints -/
def IntsAt (w : World) (A : Option Addr) (L : List Int) : Prop :=
  0 < L.length → ∃ b off, A = some ⟨b, off, none⟩ ∧ b < w.heap.size ∧ ∀ i, i < L.length → w.cell? ⟨b, off + i, none⟩ = some (.int .i64 (L[i]?.getD 0))

theorem w64_step (b x : Int) : wrap64 (wrap64 (2 * wrap64 x) + b) = wrap64 (b + 2 * x) := by
  unfold wrap64; omega

/-- block g is just these ints, none of them frozen -/
def IntBlk (w : World) (g : Nat) (L : List Int) : Prop := w.heap[g]? = some (.cells (L.map (Value.int .i64)).toArray 3 (0, 0))

theorem IntBlk.lt {w : World} {g : Nat} {L : List Int} (h : IntBlk w g L) : g < w.heap.size := by
  rcases Nat.lt_or_ge g w.heap.size with hlt | hge
  · exact hlt
  · unfold IntBlk at h; rw [Array.getElem?_eq_none hge] at h; cases h
theorem IntBlk.cell {w : World} {g : Nat} {L : List Int} (h : IntBlk w g L) (i : Nat) (hi : i < L.length) : w.cell? ⟨g, i, none⟩ = some (.int .i64 (L[i]?.getD 0)) := by
  rw [cell_of_row w g i _ _ _ h]
  simp [List.getElem?_eq_getElem hi]
theorem IntBlk.frozen {w : World} {g : Nat} {L : List Int} (h : IntBlk w g L) (i : Nat) : w.frozen? ⟨g, i, none⟩ = false := by
  unfold IntBlk at h
  simp [World.frozen?, h]
theorem IntBlk.at_ {w : World} {g : Nat} {L : List Int} (h : IntBlk w g L) : IntsAt w (some ⟨g, 0, none⟩) L :=
  fun _ => ⟨g, 0, rfl, h.lt, fun i hi => by rw [Nat.zero_add]; exact h.cell i hi⟩
theorem IntBlk.set_ {w : World} {g : Nat} {L : List Int} (h : IntBlk w g L) (i : Nat) (u : Int) : IntBlk (w.setCell ⟨g, i, none⟩ (.int .i64 u)) g (L.set i u) := by
  unfold IntBlk at h ⊢
  simp [World.setCell, Array.getElem?_modify, h, List.map_set]
theorem IntBlk.below {w w' : World} {B g : Nat} {L : List Int} (h : IntBlk w g L) (hb : Below B w w') (hg : g < B) : IntBlk w' g L := (hb.block g hg).trans h
theorem IntBlk.new (w : World) (L : List Int) : IntBlk (w.alloc (.cells (L.map (Value.int .i64)).toArray 3)) w.heap.size L := heap_alloc_new w _

theorem and_one (x : Int) : bits BinOp.and IntKind.i64 x 1 = x % 2 := by
  show IntKind.i64.wrap (((BitVec.ofInt 64 x &&& BitVec.ofInt 64 1).toNat : Nat) : Int) = x % 2
  have e2 : (BitVec.ofInt 64 x &&& BitVec.ofInt 64 1).toNat = (BitVec.ofInt 64 x).toNat % 2 := by
    rw [BitVec.toNat_and, show (BitVec.ofInt 64 1).toNat = 1 by decide, Nat.and_one_is_mod]
  rw [e2, BitVec.toNat_ofInt, IntWalk.i64_in]
  · omega
  · omega

def zerosL (k : Nat) : List Int := List.replicate k 0
theorem zerosL_length (k : Nat) : (zerosL k).length = k := by simp [zerosL]
theorem int_info : (Try.prog.info? 3).map (fun i => (i.zero, i.size, i.bytes)) = some (some (.int .i64 0), 1, 8) := by kernel_rfl
theorem make_ints (k : Nat) (hk : k ≤ 8796093022208) (w : World) : (Instr.makeSlice 31 (.int .i64 k) (.int .i64 k)).run Try.prog w =
    .ok (.slice (some ⟨w.heap.size, 0, none⟩) k k) (w.alloc (.cells ((zerosL k).map (Value.int .i64)).toArray 3)) := by
  obtain ⟨i0, hi, hz0, hz1, hz2⟩ := info_parts int_info
  have h := run_make (P := Try.prog) w 31 3 i0 _ Try.underlying31 hi hz0 .i64 .i64 k k (by omega) (by omega) (by rw [hz2]; omega) (by omega)
  rw [h, hz1]
  have e : madeCells (Value.int IntKind.i64 0).cells ((k : Int).toNat * 1) = ((zerosL k).map (Value.int .i64)).toArray := by
    apply Array.ext
    · simp [madeCells, zerosL]
    · intro i h1 h2
      simp [madeCells, zerosL, Value.cells, Nat.mod_one]
  rw [e, Int.toNat_natCast]

theorem bits_step (v : Int) (k j : Nat) (h : j < k) : (bitsL v j ++ zerosL (k - j)).set j (v / 2 ^ j % 2) = bitsL v (j + 1) ++ zerosL (k - (j + 1)) := by
  rw [List.set_append_right _ _ (by rw [bitsL_length]; omega), bitsL_length, Nat.sub_self]
  obtain ⟨m, rfl⟩ : ∃ m, k = j + 1 + m := ⟨k - (j + 1), by omega⟩
  rw [show j + 1 + m - j = m + 1 by omega, show j + 1 + m - (j + 1) = m by omega]
  unfold bitsL zerosL
  rw [List.replicate_succ, List.set_cons_zero, List.range_succ, List.map_append]
  simp

end Go.Proofs.Ytkfcfoidaalnlaa
/- Contracts of the document's rows of bits, more: signed, width. -/
namespace Go.Proofs.Ytkfcfoidaalnlaa
open Go.ChangeShapes Go.WideShapes Go.ChangeAt Go.RowKit
open Bits

/-- the number of a row of at most 64 bits, the highest as its sign -/
def sgnL (L : List Int) : Int :=
  if L.length = 64 then wrap64 (valL L) else if L.length = 0 then 0 else if L[L.length - 1]?.getD 0 = 0 then valL L else valL L - 2 ^ L.length

theorem pow_le_of {a b : Nat} (h : a ≤ b) : (2 : Int) ^ a ≤ 2 ^ b := by exact_mod_cast Nat.pow_le_pow_right (by decide : 0 < 2) h

theorem valL_w64 {L : List Int} (h : Bit L) (hl : L.length < 64) : wrap64 (valL L) = valL L := by
  have h1 := valL_nonneg h
  have h2 : (2 : Int) ^ L.length ≤ 2 ^ 63 := pow_le_of (by omega)
  have h3 : (2 : Int) ^ 63 = 9223372036854775808 := by decide
  exact IntWalk.wrap64_in _ (by omega)

theorem IntsAt.drewN {w : World} {A : Option Addr} {L : List Int} (h : IntsAt w A L) (n : Nat) : IntsAt (w.drewN n) A L := h
end Go.Proofs.Ytkfcfoidaalnlaa
/- Contracts of the program's words: low, signed, Swap, Extend; and of bits.ReverseBytes64. -/
namespace Go.Proofs.Ytkfcfoidaalnlaa
open Go.ChangeShapes Go.WideShapes Go.ChangeAt Go.RowKit
open Bits

/-- the low k bits with their sign -/
def sx (k : Nat) (x : Int) : Int := if x % 2 ^ k < 2 ^ (k - 1) then x % 2 ^ k else x % 2 ^ k - 2 ^ k

theorem pow_split {a b c : Nat} (h : a + b = c) : (2 : Int) ^ a * 2 ^ b = 2 ^ c := by rw [← Int.pow_add, h]
theorem pow_pos' (a : Nat) : (0 : Int) < 2 ^ a := Int.pow_pos (by decide)
theorem u64_pow (x : Int) : IntKind.u64.wrap x = x % 2 ^ 64 := IntKind.wrap_u64 x

theorem sx_eq (x : Int) (k : Nat) (hk : k ≤ 64) (h1 : 1 ≤ k) : wrap64 (IntKind.u64.wrap (x * 2 ^ (64 - k))) / 2 ^ (64 - k) = sx k x := by
  have hP := pow_pos' (64 - k)
  have hK := pow_pos' k
  have e64 := pow_split (show 64 - k + k = 64 by omega)
  have e63 := pow_split (show 64 - k + (k - 1) = 63 by omega)
  have hKH : (2 : Int) ^ k = 2 * 2 ^ (k - 1) := by rw [← Int.pow_succ']; congr 1; omega
  have hu : IntKind.u64.wrap (x * 2 ^ (64 - k)) = 2 ^ (64 - k) * (x % 2 ^ k) := by
    rw [u64_pow, ← e64, Int.mul_comm x, Int.mul_emod_mul_of_pos _ _ hP]
  rw [hu]
  unfold sx
  have hm0 := Int.emod_nonneg x (show (2 : Int) ^ k ≠ 0 by omega)
  have hm1 := Int.emod_lt_of_pos x hK
  have hH := pow_pos' (k - 1)
  generalize x % 2 ^ k = m at *
  generalize (2 : Int) ^ (64 - k) = P at *
  generalize (2 : Int) ^ (k - 1) = H at *
  generalize (2 : Int) ^ k = K at *
  have e64' : P * K = 18446744073709551616 := by rw [e64]; decide
  have e63' : P * H = 9223372036854775808 := by rw [e63]; decide
  have b0 : 0 ≤ P * m := Int.mul_nonneg (by omega) hm0
  have b1 : P * m < 18446744073709551616 := by rw [← e64']; exact Int.mul_lt_mul_of_pos_left hm1 hP
  by_cases h : m < H
  · have b2 : P * m < 9223372036854775808 := by rw [← e63']; exact Int.mul_lt_mul_of_pos_left h hP
    rw [IntWalk.wrap64_in _ (by omega), if_pos h, Int.mul_ediv_cancel_left _ (by omega)]
  · have b2 : 9223372036854775808 ≤ P * m := by rw [← e63']; exact Int.mul_le_mul_of_nonneg_left (by omega) (by omega)
    have hw : wrap64 (P * m) = P * (m - K) := by
      rw [Int.mul_sub, e64']; unfold wrap64; omega
    rw [hw, if_neg h, Int.mul_ediv_cancel_left _ (by omega)]

theorem and_mask (x : Int) (k : Nat) (hk : k ≤ 64) (hx : 0 ≤ x ∧ x < 18446744073709551616) : bits BinOp.and IntKind.u64 x (2 ^ k - 1) = x % 2 ^ k := by
  obtain ⟨n, rfl⟩ := Int.eq_ofNat_of_zero_le hx.1
  have e : ((2 : Int) ^ k - 1) = ((2 ^ k - 1 : Nat) : Int) := by
    rw [Int.ofNat_sub (Nat.pow_pos (by decide))]; simp
  have hlt : 2 ^ k - 1 < 18446744073709551616 := by
    have : 2 ^ k ≤ 2 ^ 64 := Nat.pow_le_pow_right (by decide) hk
    have h2 : (2 : Nat) ^ 64 = 18446744073709551616 := by decide
    have := Nat.pow_pos (n := k) (show 0 < 2 by decide)
    omega
  rw [e, u64_and_nat n _ (by omega) hlt, Nat.and_two_pow_sub_one_eq_mod]
  simp

theorem mask_eq (k : Nat) (hk : k ≤ 64) : IntKind.u64.wrap (IntKind.u64.wrap (2 ^ k) - 1) = 2 ^ k - 1 := by
  have h1 := pow_pos' k
  rw [u64_pow, u64_pow, Int.emod_sub_emod]
  have h2 : (2 : Int) ^ k ≤ 2 ^ 64 := pow_le_of hk
  exact Int.emod_eq_of_lt (by omega) (by omega)

theorem or_u64 (a b : Nat) (ha : a < 18446744073709551616) (hb : b < 18446744073709551616) : bits BinOp.or IntKind.u64 (a : Int) (b : Int) = ((a ||| b : Nat) : Int) := u64_or_nat a b ha hb
theorem shl_u64 (a c : Nat) : IntKind.u64.wrap ((a : Int) * (c : Int)) = ((a * c % 18446744073709551616 : Nat) : Int) := by rw [IntKind.wrap_u64]; simp

theorem rv1_eq (n : Nat) (h : n < 18446744073709551616) : bits BinOp.or IntKind.u64 (bits BinOp.and IntKind.u64 ((n : Int) / 256) 71777214294589695) (IntKind.u64.wrap (bits BinOp.and IntKind.u64 (n : Int) 71777214294589695 * 256)) = (rv1 n : Int) := by
  have e1 := u64_and_nat (n / 256) 71777214294589695 (by omega) (by decide)
  have e2 := u64_and_nat n 71777214294589695 (by omega) (by decide)
  have e3 := shl_u64 (n &&& 71777214294589695) 256
  have hb : n / 256 &&& 71777214294589695 < 18446744073709551616 := Nat.lt_of_le_of_lt Nat.and_le_right (by decide)
  have e4 := or_u64 (n / 256 &&& 71777214294589695) ((n &&& 71777214294589695) * 256 % 18446744073709551616) hb (Nat.mod_lt _ (by decide))
  have d : ((n : Int) / 256) = ((n / 256 : Nat) : Int) := rfl
  rw [d]
  rw [show ((71777214294589695 : Nat) : Int) = 71777214294589695 from rfl] at e1 e2
  rw [show ((256 : Nat) : Int) = 256 from rfl] at e3
  rw [e1, e2, e3, e4]; rfl
theorem rv1_lt (n : Nat) : rv1 n < 18446744073709551616 :=
  Nat.or_lt_two_pow (n := 64) (Nat.lt_of_le_of_lt Nat.and_le_right (by decide)) (Nat.mod_lt _ (by decide))
theorem rv2_eq (n : Nat) (h : n < 18446744073709551616) : bits BinOp.or IntKind.u64 (bits BinOp.and IntKind.u64 ((n : Int) / 65536) 281470681808895) (IntKind.u64.wrap (bits BinOp.and IntKind.u64 (n : Int) 281470681808895 * 65536)) = (rv2 n : Int) := by
  have e1 := u64_and_nat (n / 65536) 281470681808895 (by omega) (by decide)
  have e2 := u64_and_nat n 281470681808895 (by omega) (by decide)
  have e3 := shl_u64 (n &&& 281470681808895) 65536
  have hb : n / 65536 &&& 281470681808895 < 18446744073709551616 := Nat.lt_of_le_of_lt Nat.and_le_right (by decide)
  have e4 := or_u64 (n / 65536 &&& 281470681808895) ((n &&& 281470681808895) * 65536 % 18446744073709551616) hb (Nat.mod_lt _ (by decide))
  have d : ((n : Int) / 65536) = ((n / 65536 : Nat) : Int) := rfl
  rw [d]
  rw [show ((281470681808895 : Nat) : Int) = 281470681808895 from rfl] at e1 e2
  rw [show ((65536 : Nat) : Int) = 65536 from rfl] at e3
  rw [e1, e2, e3, e4]; rfl
theorem rv3_eq (n : Nat) (h : n < 18446744073709551616) : bits BinOp.or IntKind.u64 ((n : Int) / 4294967296) (IntKind.u64.wrap ((n : Int) * 4294967296)) = (rv3 n : Int) := by
  have e3 := shl_u64 n 4294967296
  have e4 := or_u64 (n / 4294967296) (n * 4294967296 % 18446744073709551616) (by omega) (Nat.mod_lt _ (by decide))
  have d : ((n : Int) / 4294967296) = ((n / 4294967296 : Nat) : Int) := rfl
  rw [d]
  rw [show ((4294967296 : Nat) : Int) = 4294967296 from rfl] at e3
  rw [e3, e4]; rfl

end Go.Proofs.Ytkfcfoidaalnlaa
/- Views of memory (after the guide's words for memory): a slice that reads as a list, a block known whole, append onto a row of the call's own. -/
namespace Go.Proofs.Ytkfcfoidaalnlaa
open Go.RowKit

theorem block_of_add (a : Addr) (n : Nat) : (a.add n).block = a.block := by unfold Addr.add; split <;> rfl
theorem add_of_add (a : Addr) (i j : Nat) : (a.add i).add j = a.add (i + j) := by
  unfold Addr.add
  by_cases hi : i = 0 <;> by_cases hj : j = 0 <;> simp [hi, hj, Nat.add_assoc]

def Reads (w : World) (B size : Nat) (A : Option Addr) (n : Nat) (xs : List Value) : Prop :=
  xs.length = n * size ∧ (0 < n → ∃ ad, A = some ad ∧ ad.block < B ∧ ∀ j u, xs[j]? = some u → w.cell? (ad.add j) = some u)

section
variable {w w' : World} {B B' size n : Nat} {A : Option Addr} {xs : List Value}
theorem Reads.none_ : Reads w B size A 0 [] := ⟨by simp, fun h => absurd h (by omega)⟩
theorem Reads.at_ {k : Nat} (h : Reads w B 1 A n xs) (hk : k < n) : ∃ ad u, A = some ad ∧ ad.block < B ∧ xs[k]? = some u ∧ w.cell? (ad.add k) = some u := by
  obtain ⟨ad, e, hb, hc⟩ := h.2 (by omega)
  have hl : k < xs.length := by have := h.1; omega
  exact ⟨ad, xs[k], e, hb, List.getElem?_eq_getElem hl, hc k _ (List.getElem?_eq_getElem hl)⟩
theorem Reads.keep (h : Reads w B size A n xs) (hk : ∀ p : Addr, p.block < B → w'.cell? p = w.cell? p) : Reads w' B size A n xs :=
  ⟨h.1, fun hn => by
    obtain ⟨ad, e, hb, hc⟩ := h.2 hn
    exact ⟨ad, e, hb, fun j u hu => (hk _ (by rw [block_of_add]; exact hb)).trans (hc j u hu)⟩⟩
theorem Reads.more (h : Reads w B size A n xs) (hB : B ≤ B') : Reads w B' size A n xs :=
  ⟨h.1, fun hn => by
    obtain ⟨ad, e, hb, hc⟩ := h.2 hn
    exact ⟨ad, e, by omega, hc⟩⟩
theorem Reads.below (h : Reads w B size A n xs) (hb : Below B w w') : Reads w' B size A n xs := h.keep fun _ hp => hb.cell hp
theorem Reads.drew (h : Reads w B size A n xs) : Reads w.drew B size A n xs := h
theorem Reads.drewN (h : Reads w B size A n xs) (k : Nat) : Reads (w.drewN k) B size A n xs := h
theorem Reads.alloc (h : Reads w B size A n xs) (hB : B ≤ w.heap.size) (o : Obj) : Reads (w.alloc o) B size A n xs := h.keep fun p hp => World.cell?_alloc_lt w o p (by omega)
theorem Reads.setCell (h : Reads w B size A n xs) {p : Addr} (hB : B ≤ p.block) (u : Value) : Reads (w.setCell p u) B size A n xs :=
  h.keep fun q hq => World.cell?_setCell_other w p q u (fun e => by subst e; omega)
theorem Reads.grown (h : Reads w B size A n xs) {row : Option Nat} (hg : w.grownBy w' row) (hB : B ≤ w.heap.size) (hr : ∀ g, row = some g → B ≤ g) : Reads w' B size A n xs :=
  h.keep fun p hp => World.cell?_of_block (hg.block p.block (by omega) (fun e => by have := hr _ e.symm; omega))
theorem Reads.cut (h : Reads w B size A n xs) {k cap : Nat} (hk : k ≤ n) (hc : n ≤ cap) :
    Reads w B size (if cap = k then A else A.map (·.add (k * size))) (n - k) (xs.drop (k * size)) := by
  refine ⟨by rw [List.length_drop, h.1, Nat.sub_mul], fun hn => ?_⟩
  obtain ⟨ad, rfl, hb, hcell⟩ := h.2 (by omega)
  rw [if_neg (by omega)]
  refine ⟨ad.add (k * size), rfl, by rw [block_of_add]; exact hb, fun j u hu => ?_⟩
  rw [add_of_add]
  exact hcell _ u (by rw [← hu, List.getElem?_drop])
theorem Reads.of_own {base : Nat} {e : TypeId} {c : Nat} (h : w.ownsRow base e size (.slice A n c) n xs) : Reads w w.heap.size size A n xs := by
  refine ⟨h.1, fun hn => ?_⟩
  obtain ⟨g, cap, hv, _, hlt⟩ := h.form hn
  have hA : A = some ⟨g, 0, none⟩ := by injection hv
  subst hA
  exact ⟨_, rfl, hlt, h.cells (g := g) rfl⟩
end

def Blk (w : World) (g : Nat) (t : TypeId) (cs : Array Value) : Prop := w.heap[g]? = some (.cells cs t (0, 0))

section
variable {w w' : World} {g : Nat} {t : TypeId} {cs : Array Value}
theorem Blk.lt (h : Blk w g t cs) : g < w.heap.size := by
  rcases Nat.lt_or_ge g w.heap.size with hlt | hge
  · exact hlt
  · unfold Blk at h; rw [Array.getElem?_eq_none hge] at h; cases h
theorem Blk.cell (h : Blk w g t cs) (i : Nat) : w.cell? ⟨g, i, none⟩ = cs[i]? := cell_of_row w g i cs t (0, 0) h
theorem Blk.frozen (h : Blk w g t cs) (i : Nat) : w.frozen? ⟨g, i, none⟩ = false := by
  unfold Blk at h
  simp [World.frozen?, h]
theorem Blk.new (w : World) (t : TypeId) (cs : Array Value) : Blk (w.alloc (.cells cs t)) w.heap.size t cs := heap_alloc_new w _
theorem Blk.drew (h : Blk w g t cs) : Blk w.drew g t cs := h
theorem Blk.drewN (h : Blk w g t cs) (n : Nat) : Blk (w.drewN n) g t cs := h
theorem Blk.alloc (h : Blk w g t cs) (o : Obj) : Blk (w.alloc o) g t cs := (Below.heap_alloc w o g h.lt).trans h
theorem Blk.set_ (h : Blk w g t cs) (i : Nat) (u : Value) : Blk (w.setCell ⟨g, i, none⟩ u) g t (cs.setIfInBounds i u) := by
  unfold Blk at h ⊢
  simp [World.setCell, Array.getElem?_modify, h]
theorem Blk.far (h : Blk w g t cs) {p : Addr} (hp : g ≠ p.block) (u : Value) : Blk (w.setCell p u) g t cs := (Below.heap_setCell w p u g hp).trans h
theorem Blk.below {B : Nat} (h : Blk w g t cs) (hb : Below B w w') (hg : g < B) : Blk w' g t cs := (hb.block g hg).trans h
theorem Blk.grown {row : Option Nat} (h : Blk w g t cs) (hb : w.grownBy w' row) (hg : some g ≠ row) : Blk w' g t cs := (hb.block g h.lt hg).trans h
theorem Blk.ne_ {g' : Nat} {t' : TypeId} {cs' : Array Value} (h : Blk w g t cs) (h' : Blk w g' t' cs') (hne : t ≠ t') : g ≠ g' := by
  rintro rfl
  unfold Blk at h h'
  rw [h] at h'
  injection h' with h'
  injection h' with _ ht
  exact hne ht
theorem own_blk_ne {base : Nat} {e : TypeId} {size n : Nat} {v : Value} {xs : List Value} (h : w.ownsRow base e size v n xs) (hg : Blk w g t cs) (hne : e ≠ t) : v.ownBlock ≠ some g := by
  rcases h.2 with ⟨rfl, _⟩ | ⟨g', cap, cur, rfl, _, hh, _⟩
  · simp [Value.ownBlock]
  · intro he
    have : g' = g := by simpa [Value.ownBlock] using he
    subst this
    exact Blk.ne_ (t := e) hh hg hne rfl
end

section
variable {P : Program} (w : World)

theorem run_append_of_nil (base : Nat) (t ty e : TypeId) (i : TypeInfo) (size : Nat) (ht : P.underlying t = some (.slice e)) (hi : P.info? e = some i)
    (v : Value) (n : Nat) (xs : List Value) (hown : w.ownsRow base e size v n xs) (c : Nat) : (Builtin.append_ #[t, t] ty #[v, .slice none 0 c]).run P w = .ok v w := by
  rcases hown.2 with ⟨rfl, rfl⟩ | ⟨g, cap, cur, rfl, _, _, hnc, _⟩
  · simp [Builtin.append_, run_underlying ht, sizeOf, typeInfo, hi, Builtin.lenOf, Builtin.firstCells]
  · simp [Builtin.append_, run_underlying ht, sizeOf, typeInfo, hi, Builtin.lenOf, Builtin.firstCells, hnc, storeCells]

theorem run_append_any (base : Nat) (t ty e : TypeId) (i : TypeInfo) (z : Value) (size bytes : Nat) (ht : P.underlying t = some (.slice e)) (hi : P.info? e = some i) (hz : i.zero = some z)
    (hsize : i.size = size) (hby : i.bytes = bytes) (hzs : z.cells.size = size) (hsz : 0 < size)
    (v : Value) (n : Nat) (xs : List Value) (hown : w.ownsRow base e size v n xs)
    (B : Nat) (A : Option Addr) (m c : Nat) (news : List Value) (hr : Reads w B size A m news) (h1 : ∀ u ∈ news, u.oneCell' = true)
    (h63 : n + m ≤ maxLen) (hbytes : (n + m) * bytes ≤ 140737488355328) (hbase : base ≤ w.heap.size) :
    ∃ v' w', (Builtin.append_ #[t, t] ty #[v, .slice A m c]).run P w = .ok v' w' ∧ w'.ownsRow base e size v' (n + m) (xs ++ news) ∧ w.grownBy w' v.ownBlock ∧
      (v'.ownBlock = v.ownBlock ∨ v'.ownBlock = some w.heap.size) := by
  rcases A with _ | ad
  · have hm : m = 0 := by
      rcases Nat.eq_zero_or_pos m with h0 | h0
      · exact h0
      · obtain ⟨ad, h, _⟩ := hr.2 h0
        cases h
    subst hm
    have hn : news = [] := List.eq_nil_of_length_eq_zero (by simpa using hr.1)
    subst hn
    exact ⟨v, w, run_append_of_nil w base t ty e i size ht hi v n xs hown c, by simpa using hown, World.grownBy.refl w _, .inl rfl⟩
  · have hcells : ∀ j u, news[j]? = some u → w.cell? (ad.add j) = some u := by
      intro j u hu
      rcases Nat.eq_zero_or_pos m with h0 | h0
      · subst h0
        have hn : news = [] := List.eq_nil_of_length_eq_zero (by simpa using hr.1)
        subst hn
        simp at hu
      · obtain ⟨ad', h, _, hc⟩ := hr.2 h0
        injection h with h
        subst h
        exact hc j u hu
    obtain ⟨v', w', hrun, h2, h3, _, h5⟩ := run_append_own_at (P := P) w base t ty e i z size bytes ht hi hz hsize hby hzs hsz v n xs hown ad m c news hr.1 hcells h1 h63 hbytes hbase
    exact ⟨v', w', hrun, h2, h3, h5⟩

theorem wp_append_any {o : Oper} {a : Act} {K : Act → World → Prop} {Q : Exit → Act → World → Prop} (s x : Operand) (t : TypeId)
    (ho : o.op = .call { callee := .builtin .append, args := #[s, x], argTypes := #[t, t] })
    (base : Nat) (e : TypeId) (i : TypeInfo) (z : Value) (size bytes : Nat) (ht : P.underlying t = some (.slice e)) (hi : P.info? e = some i) (hz : i.zero = some z)
    (hsize : i.size = size) (hby : i.bytes = bytes) (hzs : z.cells.size = size) (hsz : 0 < size)
    (v : Value) (n : Nat) (xs : List Value) (hs : a.eval s = v) (hown : w.ownsRow base e size v n xs)
    (B : Nat) (A : Option Addr) (m c : Nat) (news : List Value) (hx : a.eval x = .slice A m c) (hr : Reads w B size A m news) (h1 : ∀ u ∈ news, u.oneCell' = true)
    (h63 : n + m ≤ maxLen) (hbytes : (n + m) * bytes ≤ 140737488355328) (hbase : base ≤ w.heap.size)
    (h : ∀ v' w', w'.ownsRow base e size v' (n + m) (xs ++ news) → w.grownBy w' v.ownBlock → (v'.ownBlock = v.ownBlock ∨ v'.ownBlock = some w.heap.size) → K (a.put o.dst v') w') : o.wp P a w K Q := by
  obtain ⟨v', w', hrun, h2, h3, h4⟩ := run_append_any (P := P) w base t o.type e i z size bytes ht hi hz hsize hby hzs hsz v n xs hown B A m c news hr h1 h63 hbytes hbase
  unfold Oper.wp execOp
  simp only [ho, resolve, invoke, builtin, Sem.run_bind, Sem.run_pure, Result.andThen_ok, List.map_toArray, List.map_cons, List.map_nil, hs, hx, hrun]
  exact h v' w' h2 h3 h4

theorem wpList_append_any {ops : Array Oper} {rest : List Oper} {o : Oper} {a : Act} {Q : Exit → Act → World → Prop} (hgd : o.guard = none) (s x : Operand) (t : TypeId)
    (ho : o.op = .call { callee := .builtin .append, args := #[s, x], argTypes := #[t, t] })
    (base : Nat) (e : TypeId) (i : TypeInfo) (z : Value) (size bytes : Nat) (ht : P.underlying t = some (.slice e)) (hi : P.info? e = some i) (hz : i.zero = some z)
    (hsize : i.size = size) (hby : i.bytes = bytes) (hzs : z.cells.size = size) (hsz : 0 < size)
    (v : Value) (n : Nat) (xs : List Value) (hs : a.eval s = v) (hown : w.ownsRow base e size v n xs)
    (B : Nat) (A : Option Addr) (m c : Nat) (news : List Value) (hx : a.eval x = .slice A m c) (hr : Reads w B size A m news) (h1 : ∀ u ∈ news, u.oneCell' = true)
    (h63 : n + m ≤ maxLen) (hbytes : (n + m) * bytes ≤ 140737488355328) (hbase : base ≤ w.heap.size)
    (h : ∀ v' w', w'.ownsRow base e size v' (n + m) (xs ++ news) → w.grownBy w' v.ownBlock → (v'.ownBlock = v.ownBlock ∨ v'.ownBlock = some w.heap.size) → wpList P ops Q rest (a.put o.dst v') w') : wpList P ops Q (o :: rest) a w :=
  wpList_plain hgd fun _ hK => wp_append_any w s x t ho base e i z size bytes ht hi hz hsize hby hzs hsz v n xs hs hown B A m c news hx hr h1 h63 hbytes hbase fun v' w' h2 h3 h4 => hK _ _ (h v' w' h2 h3 h4)

theorem step_append_any {ops : Array Oper} {o : Oper} {a : Act} {K : Act → World → Prop} {Q : Exit → Act → World → Prop} {E : Prop} (hgd : o.guard = none) (s x : Operand) (t : TypeId)
    (ho : o.op = .call { callee := .builtin .append, args := #[s, x], argTypes := #[t, t] })
    (base : Nat) (e : TypeId) (i : TypeInfo) (z : Value) (size bytes : Nat) (ht : P.underlying t = some (.slice e)) (hi : P.info? e = some i) (hz : i.zero = some z)
    (hsize : i.size = size) (hby : i.bytes = bytes) (hzs : z.cells.size = size) (hsz : 0 < size)
    (v : Value) (n : Nat) (xs : List Value) (hs : a.eval s = v) (hown : w.ownsRow base e size v n xs)
    (B : Nat) (A : Option Addr) (m c : Nat) (news : List Value) (hx : a.eval x = .slice A m c) (hr : Reads w B size A m news) (h1 : ∀ u ∈ news, u.oneCell' = true)
    (h63 : n + m ≤ maxLen) (hbytes : (n + m) * bytes ≤ 140737488355328) (hbase : base ≤ w.heap.size)
    (h : ∀ v' w', w'.ownsRow base e size v' (n + m) (xs ++ news) → w.grownBy w' v.ownBlock → (v'.ownBlock = v.ownBlock ∨ v'.ownBlock = some w.heap.size) → K (a.put o.dst v') w') :
    if Region.wanted o (yielded ops a.tmps) = true then Oper.wp P o a w K Q else E := by
  have hw : Region.wanted o (yielded ops a.tmps) = true := by simp [Region.wanted, hgd]
  rw [if_pos hw]
  exact wp_append_any w s x t ho base e i z size bytes ht hi hz hsize hby hzs hsz v n xs hs hown B A m c news hx hr h1 h63 hbytes hbase h
end

end Go.Proofs.Ytkfcfoidaalnlaa
/- Extend: the program's and the document's, one function. -/
namespace Go.Proofs.Ytkfcfoidaalnlaa
open Go.ChangeShapes Go.WideShapes Go.ChangeAt Go.RowKit
open Bits

theorem below_drewN {B : Nat} {a w : World} (h : Below B a w) (n : Nat) : Below B a (w.drewN n) := ⟨h.os, h.tape, h.output, h.size, h.block⟩

theorem sx_u64 (k : Nat) (hk : k ≤ 64) (a : Int) : sx k (IntKind.u64.wrap a) = sx k a := by
  have e : IntKind.u64.wrap a % 2 ^ k = a % 2 ^ k := by
    rw [u64_pow]
    exact Int.emod_emod_of_dvd a ⟨2 ^ (64 - k), (pow_split (show k + (64 - k) = 64 by omega)).symm⟩
  unfold sx; rw [e]
theorem sx_rng (k : Nat) (h1 : 1 ≤ k) (a : Int) : -(2 ^ (k - 1)) ≤ sx k a ∧ sx k a < 2 ^ (k - 1) := by
  have hK := pow_pos' k
  have hKH : (2 : Int) ^ k = 2 * 2 ^ (k - 1) := by rw [← Int.pow_succ']; congr 1; omega
  have hm0 := Int.emod_nonneg a (show (2 : Int) ^ k ≠ 0 by omega)
  have hm1 := Int.emod_lt_of_pos a hK
  unfold sx; split <;> omega
theorem sx_rng64 (k : Nat) (h1 : 1 ≤ k) (hk : k ≤ 64) (a : Int) : -9223372036854775808 ≤ sx k a ∧ sx k a < 9223372036854775808 := by
  have h := sx_rng k h1 a
  have h2 : (2 : Int) ^ (k - 1) ≤ 2 ^ 63 := pow_le_of (by omega)
  have h3 : (2 : Int) ^ 63 = 9223372036854775808 := by decide
  omega
theorem w64_u64 (x : Int) (h : -9223372036854775808 ≤ x ∧ x < 9223372036854775808) : wrap64 (IntKind.u64.wrap x) = x := by
  rw [IntKind.wrap_u64]; unfold wrap64; omega
theorem emod_mul2 (a H : Int) (hH : 0 < H) : a % (H * 2) = a % H + H * (a / H % 2) := by
  rw [Int.emod_def a (H * 2), Int.emod_def a H, Int.emod_def (a / H) 2, ← Int.ediv_ediv_of_nonneg (Int.le_of_lt hH), Int.mul_sub, Int.mul_assoc]
  omega
theorem sgnL_bits (a : Int) (k : Nat) (h1 : 1 ≤ k) (hk : k < 64) : sgnL (bitsL a k) = sx k a := by
  have hb : (bitsL a k)[(bitsL a k).length - 1]?.getD 0 = a / 2 ^ (k - 1) % 2 := by
    rw [bitsL_length, bitsL_get _ _ _ (by omega)]; rfl
  unfold sgnL sx
  rw [hb]
  simp only [bitsL_length, valL_bits]
  rw [if_neg (by omega), if_neg (by omega)]
  have hH := pow_pos' (k - 1)
  have hKH : (2 : Int) ^ k = 2 ^ (k - 1) * 2 := by rw [← Int.pow_succ]; congr 1; omega
  rw [hKH]
  have e : a % (2 ^ (k - 1) * 2) = a % 2 ^ (k - 1) + 2 ^ (k - 1) * (a / 2 ^ (k - 1) % 2) := emod_mul2 a _ hH
  have hm0 := Int.emod_nonneg a (show (2 : Int) ^ (k - 1) ≠ 0 by omega)
  have hm1 := Int.emod_lt_of_pos a hH
  rw [e]
  rcases Int.emod_two_eq (a / 2 ^ (k - 1)) with h | h
  · rw [h, if_pos rfl, if_pos (by omega)]
  · rw [h, if_neg (by decide), if_neg (by omega)]

/-- what Extend is, where its size is one of three -/
def extV (k : Nat) (n : Bool) (a : Int) : Int := if n = true then sx k a % 4294967296 else sx k a
theorem extV_f (k : Nat) (a : Int) (h1 : 1 ≤ k) (hk : k ≤ 32) : wrap64 (IntKind.u64.wrap (sx k (IntKind.u64.wrap a))) = extV k false a := by
  rw [sx_u64 k (by omega), w64_u64 _ (sx_rng64 k h1 (by omega) a)]; rfl
theorem extV_t (k : Nat) (a : Int) (hk : k ≤ 32) : IntKind.u64.wrap (sx k (IntKind.u64.wrap a)) % 4294967296 = extV k true a := by
  rw [sx_u64 k (by omega), IntKind.wrap_u64]
  show sx k a % 18446744073709551616 % 4294967296 = sx k a % 4294967296
  omega

/-- the document's Extend behind its tests: for any number of bits and any width -/
theorem ref_tail (a : Int) (k m : Nat) (h1 : 1 ≤ k) (hk : k ≤ 32) : wrap64 (valL (bitsL (sgnL (bitsL a k)) m)) = wrap64 (sx k a % 2 ^ m) := by
  rw [valL_bits, sgnL_bits a k h1 (by omega)]
theorem ref_t (a : Int) (k : Nat) (h1 : 1 ≤ k) (hk : k ≤ 32) : wrap64 (valL (bitsL (sgnL (bitsL a k)) 32)) = extV k true a := by
  rw [ref_tail a k 32 h1 hk]
  show wrap64 (sx k a % 2 ^ 32) = sx k a % 4294967296
  rw [show (2 : Int) ^ 32 = 4294967296 from rfl]; unfold wrap64; omega
theorem ref_f (a : Int) (k : Nat) (h1 : 1 ≤ k) (hk : k ≤ 32) : wrap64 (valL (bitsL (sgnL (bitsL a k)) 64)) = extV k false a := by
  rw [ref_tail a k 64 h1 hk]
  have h := sx_rng64 k h1 (by omega) a
  show wrap64 (sx k a % 2 ^ 64) = sx k a
  rw [show (2 : Int) ^ 64 = 18446744073709551616 from rfl]; unfold wrap64; omega

end Go.Proofs.Ytkfcfoidaalnlaa
/- Bytes of numbers: Put and Get of the program. -/
namespace Go.Proofs.Ytkfcfoidaalnlaa
open Go.ChangeShapes Go.WideShapes Go.ChangeAt Go.RowKit
open Bits
set_option linter.unusedVariables false

/-- block g is just these bytes, none of them frozen -/
def ByteBlk (w : World) (g : Nat) (L : List Int) : Prop := w.heap[g]? = some (.cells (L.map (Value.int .u8)).toArray 5 (0, 0))
theorem ByteBlk.lt {w : World} {g : Nat} {L : List Int} (h : ByteBlk w g L) : g < w.heap.size := by
  rcases Nat.lt_or_ge g w.heap.size with hlt | hge
  · exact hlt
  · unfold ByteBlk at h; rw [Array.getElem?_eq_none hge] at h; cases h
theorem ByteBlk.cell {w : World} {g : Nat} {L : List Int} (h : ByteBlk w g L) (i : Nat) (hi : i < L.length) : w.cell? ⟨g, i, none⟩ = some (.int .u8 (L[i]?.getD 0)) := by
  rw [cell_of_row w g i _ _ _ h]
  simp [List.getElem?_eq_getElem hi]
theorem ByteBlk.frozen {w : World} {g : Nat} {L : List Int} (h : ByteBlk w g L) (i : Nat) : w.frozen? ⟨g, i, none⟩ = false := by
  unfold ByteBlk at h
  simp [World.frozen?, h]
theorem ByteBlk.set_ {w : World} {g : Nat} {L : List Int} (h : ByteBlk w g L) (i : Nat) (u : Int) : ByteBlk (w.setCell ⟨g, i, none⟩ (.int .u8 u)) g (L.set i u) := by
  unfold ByteBlk at h ⊢
  simp [World.setCell, Array.getElem?_modify, h, List.map_set]
theorem ByteBlk.below {w w' : World} {B g : Nat} {L : List Int} (h : ByteBlk w g L) (hb : Below B w w') (hg : g < B) : ByteBlk w' g L := (hb.block g hg).trans h
theorem ByteBlk.new (w : World) (L : List Int) : ByteBlk (w.alloc (.cells (L.map (Value.int .u8)).toArray 5)) w.heap.size L := heap_alloc_new w _

/-- the slice's cells, in world w, are these bytes -/
def BytesAt (w : World) (A : Option Addr) (L : List Int) : Prop :=
  0 < L.length → ∃ b off, A = some ⟨b, off, none⟩ ∧ b < w.heap.size ∧ ∀ i, i < L.length → w.cell? ⟨b, off + i, none⟩ = some (.int .u8 (L[i]?.getD 0))
theorem ByteBlk.at_ {w : World} {g : Nat} {L : List Int} (h : ByteBlk w g L) : BytesAt w (some ⟨g, 0, none⟩) L :=
  fun _ => ⟨g, 0, rfl, h.lt, fun i hi => by rw [Nat.zero_add]; exact h.cell i hi⟩
theorem BytesAt.below {w w' : World} {A : Option Addr} {L : List Int} (h : BytesAt w A L) (hb : Below w.heap.size w w') : BytesAt w' A L := fun hp => by
  obtain ⟨b, off, rfl, hlt, hc⟩ := h hp
  exact ⟨b, off, rfl, Nat.lt_of_lt_of_le hlt hb.size, fun i hi => (hb.cell (p := ⟨b, off + i, none⟩) hlt).trans (hc i hi)⟩

/-- the lowest k bytes of a number, the lowest first -/
def bytesL (v : Int) (k : Nat) : List Int := (List.range k).map fun i => v / 2 ^ (8 * i) % 256
theorem bytesL_length (v : Int) (k : Nat) : (bytesL v k).length = k := by simp [bytesL]
theorem bytesL_get (v : Int) (k i : Nat) (h : i < k) : (bytesL v k)[i]? = some (v / 2 ^ (8 * i) % 256) := by simp [bytesL, h]
/-- the number that bytes are -/
def valB : List Int → Int
  | [] => 0
  | b :: t => b + 256 * valB t
theorem bytesL_succ (v : Int) (k : Nat) : bytesL v (k + 1) = (v % 256) :: bytesL (v / 256) k := by
  unfold bytesL
  rw [List.range_succ_eq_map]
  simp only [List.map_cons, List.map_map, Nat.mul_zero, Int.pow_zero, Int.ediv_one]
  congr 1
  apply List.map_congr_left
  intro i _
  simp only [Function.comp]
  rw [show 8 * (i + 1) = 8 + 8 * i by omega, Int.pow_add, show (2 : Int) ^ 8 = 256 from rfl, ← Int.ediv_ediv_of_nonneg (by decide : (0:Int) ≤ 256)]
theorem valB_bytes (v : Int) (k : Nat) : valB (bytesL v k) = v % 2 ^ (8 * k) := by
  induction k generalizing v with
  | zero => simp [bytesL, valB, Int.emod_one]
  | succ k ih =>
    rw [bytesL_succ, valB, ih, show 8 * (k + 1) = 8 + 8 * k by omega, Int.pow_add, show (2 : Int) ^ 8 = 256 from rfl]
    rw [Int.emod_def v (256 * 2 ^ (8 * k)), Int.emod_def (v / 256) (2 ^ (8 * k)), ← Int.ediv_ediv_of_nonneg (by decide : (0:Int) ≤ 256)]
    have := Int.emod_def v 256
    rw [Int.mul_assoc]
    omega
def Byt (l : List Int) : Prop := ∀ x ∈ l, 0 ≤ x ∧ x < 256
theorem byt_bytes (v : Int) (k : Nat) : Byt (bytesL v k) := by
  intro x hx
  simp only [bytesL, List.mem_map] at hx
  obtain ⟨i, _, rfl⟩ := hx
  omega
theorem byt_at {L : List Int} (h : Byt L) (k : Nat) : 0 ≤ L[k]?.getD 0 ∧ L[k]?.getD 0 < 256 := by
  rcases Nat.lt_or_ge k L.length with hk | hk
  · rw [List.getElem?_eq_getElem hk]; exact h _ (List.getElem_mem hk)
  · rw [List.getElem?_eq_none hk]; exact ⟨Int.le_refl _, by decide⟩
theorem valB_append (a b : List Int) : valB (a ++ b) = valB a + 2 ^ (8 * a.length) * valB b := by
  induction a with
  | nil => simp [valB]
  | cons x t ih =>
    simp only [List.cons_append, valB, ih, List.length_cons]
    rw [show 8 * (t.length + 1) = 8 + 8 * t.length by omega, Int.pow_add, show (2 : Int) ^ 8 = 256 from rfl, Int.mul_add, ← Int.mul_assoc, Int.add_assoc]
theorem valB_rng {l : List Int} (h : Byt l) : 0 ≤ valB l ∧ valB l < 2 ^ (8 * l.length) := by
  induction l with
  | nil => simp [valB]
  | cons x t ih =>
    have hx := h x (by simp)
    have ht := ih (fun y hy => h y (by simp [hy]))
    simp only [valB, List.length_cons]
    rw [show 8 * (t.length + 1) = 8 + 8 * t.length by omega, Int.pow_add, show (2 : Int) ^ 8 = 256 from rfl]
    generalize (2 : Int) ^ (8 * t.length) = P at *
    generalize valB t = y at *
    omega
theorem bytes_of_val {l : List Int} (h : Byt l) : bytesL (valB l) l.length = l := by
  induction l with
  | nil => rfl
  | cons x t ih =>
    have hx := h x (by simp)
    have ht := ih (fun y hy => h y (by simp [hy]))
    rw [List.length_cons, bytesL_succ, valB]
    rw [show (x + 256 * valB t) % 256 = x by omega, show (x + 256 * valB t) / 256 = valB t by omega, ht]

theorem byte_info : (Try.prog.info? 5).map (fun i => (i.zero, i.size, i.bytes)) = some (some (.int .u8 0), 1, 1) := by kernel_rfl
theorem make_bytes (k : Nat) (hk : k ≤ 1099511627776) (w : World) : (Instr.makeSlice 22 (.int .i64 k) (.int .i64 k)).run Try.prog w =
    .ok (.slice (some ⟨w.heap.size, 0, none⟩) k k) (w.alloc (.cells ((zerosL k).map (Value.int .u8)).toArray 5)) := by
  obtain ⟨i0, hi, hz0, hz1, hz2⟩ := info_parts byte_info
  have h := run_make (P := Try.prog) w 22 5 i0 _ Try.underlying22 hi hz0 .i64 .i64 k k (by omega) (by omega) (by rw [hz2]; omega) (by omega)
  rw [h, hz1]
  have e : madeCells (Value.int IntKind.u8 0).cells ((k : Int).toNat * 1) = ((zerosL k).map (Value.int .u8)).toArray := by
    apply Array.ext
    · simp [madeCells, zerosL]
    · intro i h1 h2
      simp [madeCells, zerosL, Value.cells, Nat.mod_one]
  rw [e, Int.toNat_natCast]

theorem bytes_step (v : Int) (k j : Nat) (h : j < k) : (bytesL v j ++ zerosL (k - j)).set j (v / 2 ^ (8 * j) % 256) = bytesL v (j + 1) ++ zerosL (k - (j + 1)) := by
  rw [List.set_append_right _ _ (by rw [bytesL_length]; omega), bytesL_length, Nat.sub_self]
  obtain ⟨m, rfl⟩ : ∃ m, k = j + 1 + m := ⟨k - (j + 1), by omega⟩
  rw [show j + 1 + m - j = m + 1 by omega, show j + 1 + m - (j + 1) = m by omega]
  unfold bytesL zerosL
  rw [List.replicate_succ, List.set_cons_zero, List.range_succ, List.map_append]
  simp

/-! ### Get -/
theorem or_step (v x : Int) (j : Nat) (hj : j < 8) (hv : 0 ≤ v ∧ v < 2 ^ (8 * j)) (hx : 0 ≤ x ∧ x < 256) :
    bits BinOp.or IntKind.u64 v (IntKind.u64.wrap (x * 2 ^ (8 * j))) = v + 2 ^ (8 * j) * x := by
  obtain ⟨m, rfl⟩ := Int.eq_ofNat_of_zero_le hv.1
  obtain ⟨y, rfl⟩ := Int.eq_ofNat_of_zero_le hx.1
  have hp : 0 < 2 ^ (8 * j) := Nat.pow_pos (by decide)
  have hP : (2 : Nat) ^ (8 * j) ≤ 2 ^ 56 := Nat.pow_le_pow_right (by decide) (by omega)
  rw [show (2 : Nat) ^ 56 = 72057594037927936 from rfl] at hP
  have hc : ((2 : Int) ^ (8 * j)) = ((2 ^ (8 * j) : Nat) : Int) := by simp
  rw [hc] at hv ⊢
  have hm : m < 2 ^ (8 * j) := by omega
  have hy : y < 256 := by omega
  have hyP : y * 2 ^ (8 * j) ≤ 255 * 72057594037927936 := Nat.mul_le_mul (by omega) hP
  have e1 : IntKind.u64.wrap ((y : Int) * ((2 ^ (8 * j) : Nat) : Int)) = ((y * 2 ^ (8 * j) : Nat) : Int) := by
    rw [← Int.natCast_mul, IntKind.wrap_u64]; omega
  rw [e1, u64_or_nat m _ (by omega) (by omega), Nat.or_comm, nat_join (8 * j) _ _ (Nat.mul_mod_left _ _) hm, Nat.mul_comm]
  omega
theorem take_step (L : List Int) (j : Nat) (h : j < L.length) : valB (L.take (j + 1)) = valB (L.take j) + 2 ^ (8 * j) * (L[j]?.getD 0) := by
  rw [List.take_succ_eq_append_getElem h, valB_append, List.length_take, Nat.min_eq_left (Nat.le_of_lt h), List.getElem?_eq_getElem h]
  simp [valB]
theorem byt_take {L : List Int} (h : Byt L) (k : Nat) : Byt (L.take k) := fun x hx => h x (List.mem_of_mem_take hx)

def getV (L : List Int) (s : Bool) : Int := if L.length < 1 ∨ 8 < L.length then 0 else if s = true then sx (8 * L.length) (valB L) else wrap64 (valB L)

end Go.Proofs.Ytkfcfoidaalnlaa
/- Rows of bytes that a call owns, and a copy of bytes in memory of its own. -/
namespace Go.Proofs.Ytkfcfoidaalnlaa
open Go.ChangeShapes Go.WideShapes Go.ChangeAt Go.RowKit
open Bits
set_option linter.unusedVariables false

def OwnB (w : World) (base : Nat) (v : Value) (L : List Int) : Prop := w.ownsRow base 5 1 v L.length (L.map (Value.int .u8))

theorem BytesAt.reads {w : World} {A : Option Addr} {L : List Int} (h : BytesAt w A L) : Reads w w.heap.size 1 A L.length (L.map (Value.int .u8)) := by
  refine ⟨by simp, fun hn => ?_⟩
  obtain ⟨b, off, rfl, hb, hc⟩ := h hn
  refine ⟨_, rfl, hb, fun j u hu => ?_⟩
  rw [List.getElem?_map] at hu
  have hj : j < L.length := by
    rcases Nat.lt_or_ge j L.length with h1 | h1
    · exact h1
    · rw [List.getElem?_eq_none h1] at hu; cases hu
  have := hc j hj
  rw [List.getElem?_eq_getElem hj] at this hu
  simp only [Option.map_some, Option.some.injEq, Option.getD_some] at hu this
  have e : ({ block := b, off := off } : Addr).add j = ⟨b, off + j, none⟩ := by
    unfold Addr.add; split
    · subst_vars; rfl
    · rfl
  rw [e, this, hu]
theorem OwnB.nil (w : World) (base : Nat) : OwnB w base (.slice none 0 0) [] := World.ownsRow_nil w base _ 1
theorem OwnB.form {w : World} {base : Nat} {v : Value} {L : List Int} (h : OwnB w base v L) : ∃ A c, v = .slice A L.length c ∧ BytesAt w A L := by
  rcases h.2 with ⟨hv, hn⟩ | ⟨g, cap, cur, hv, hg, hh, hnc, hcm, hcs, hx⟩
  · have : L = [] := List.eq_nil_of_length_eq_zero hn
    subst this
    exact ⟨none, 0, hv, fun h => by simp at h⟩
  · refine ⟨_, cap, hv, fun hp => ⟨g, 0, rfl, ?_, fun i hi => ?_⟩⟩
    · rcases Nat.lt_or_ge g w.heap.size with h1 | h1
      · exact h1
      · rw [Array.getElem?_eq_none h1] at hh; cases hh
    · have h2 : w.ownsRow base 5 1 (.slice (some ⟨g, 0, none⟩) L.length cap) L.length (L.map (Value.int .u8)) := hv ▸ h
      have := World.ownsRow.cellAt h2 i (by omega)
      rw [Nat.zero_add, this]
      simp [List.getElem?_eq_getElem hi]

theorem append_bytes {P : Program} (hu : P.underlying 22 = some (.slice 5)) (hinf : (P.info? 5).map (fun i => (i.zero, i.size, i.bytes)) = some (some (.int .u8 0), 1, 1)) (w : World) {ops : Array Oper} {rest : List Oper} {o : Oper} {a : Act} {Q : Exit → Act → World → Prop} (hgd : o.guard = none) (s x : Operand)
    (ho : o.op = .call { callee := .builtin .append, args := #[s, x], argTypes := #[22, 22] })
    (base : Nat) (v : Value) (L : List Int) (hs : a.eval s = v) (hown : OwnB w base v L)
    (A : Option Addr) (m c : Nat) (M : List Int) (hx : a.eval x = .slice A m c) (hm : M.length = m) (hr : BytesAt w A M)
    (hlen : L.length + m ≤ 140737488355328) (hbase : base ≤ w.heap.size)
    (h : ∀ v' w', OwnB w' base v' (L ++ M) → Below base w w' → wpList P ops Q rest (a.put o.dst v') w') : wpList P ops Q (o :: rest) a w := by
  subst hm
  obtain ⟨i0, hi, hz0, hz1, hz2⟩ := info_parts hinf
  refine wpList_append_any w hgd s x 22 ho base 5 i0 (.int .u8 0) 1 1 hu hi hz0 hz1 hz2 rfl (by decide) v L.length _ hs hown w.heap.size A M.length c _ hx hr.reads
    (fun u hu => ?_) (by unfold maxLen; omega) (by omega) hbase ?_
  · simp only [List.mem_map] at hu
    obtain ⟨z, _, rfl⟩ := hu
    rfl
  · intro v' w' h1 h2 _
    refine h v' w' ?_ ((Below.refl base w).grown h2 hbase fun k hk => (World.ownsRow.lt hown k hk).1)
    unfold OwnB
    rw [List.length_append, List.map_append]
    exact h1

/-- what a copy of bytes leaves -/
def Copied (w : World) (L : List Int) (e : Ending) (w' : World) : Prop := ∃ A c, e = .returned (.slice A L.length c) ∧ BytesAt w' A L ∧ Below w.heap.size w w'

theorem copyBytes_any (w : World) (A : Option Addr) (n c : Nat) (L : List Int) (hL : L.length = n) (hlen : n ≤ 140737488355328) (h : BytesAt w A L) :
    Calls Try.prog 17 #[.slice A n c] w (Copied w L) := by
  have hown := OwnB.nil w w.heap.size
  go_enter Try.func17, Try.ntmps17
  go_wp2_with (at_builtin; (refine append_bytes Try.underlying22 byte_info _ rfl (.const (.slice none 0 0)) (.tmp 3) rfl w.heap.size _ _ rfl hown _ n c _ rfl hL h (by simpa using hlen) (Nat.le_refl _) ?_; intro v' w' hown' hB'))
  obtain ⟨A', c', hv, hat⟩ := hown'.form
  subst hv
  go_ret
  exact ⟨A', c', rfl, hat, hB'⟩

theorem conv_at (w : World) (A : Option Addr) (n c : Nat) (L : List Int) (hL : L.length = n) (hp : 0 < n) (h : BytesAt w A L) :
    (convert 22 9 (.slice A n c)).run Try.prog w = .ok (.string (strOfNums L)) w := by
  obtain ⟨b, off, rfl, hlt, hc⟩ := h (by omega)
  exact run_convert_bytes_arg w 22 5 Try.underlying22 Try.underlying5 b off n c L hL (fun i hi => by rw [hc i (by omega), List.getD_eq_getElem?_getD]) 9 Try.underlying9
theorem same_yes (w : World) (A : Option Addr) (n c : Nat) (A' : Option Addr) (c' : Nat) (L : List Int) (hL : L.length = n) (hp : 0 < n) (h : BytesAt w A L) (h' : BytesAt w A' L) :
    Calls Try.prog 14 #[.slice A n c, .slice A' n c'] w fun e w' => e = .returned (.bool true) ∧ w = w' := by
  have H1 := conv_at w A n c L hL hp h
  have H2 := conv_at w A' n c' L hL hp h'
  clear h h' hL hp
  generalize strOfNums L = S at *
  go_enter Try.func14, Try.ntmps14
  go_wp2
  go_ret
  exact ⟨rfl, rfl⟩
end Go.Proofs.Ytkfcfoidaalnlaa
