/- The document's Holds: conditions of rows of bits. -/
import Derived.Test.YtmoecflmdfkgdaaLess
namespace Go.Proofs.Ytmoecflmdfkgdaa
open Go.ChangeShapes Go.WideShapes Go.ChangeAt Go.RowKit
open Bits
set_option linter.unusedVariables false

def kw (n : Bool) : Nat := if n = true then 32 else 64
theorem kw_le (n : Bool) : 1 ≤ kw n ∧ kw n ≤ 64 := by cases n <;> decide
theorem width_n (n : Bool) (w : World) : Calls Try.prog 47 #[.bool n] w fun e w' => e = .returned (.int .i64 (kw n)) ∧ w = w' := by
  refine (width_any n w).mono ?_
  rintro e w' ⟨rfl, rfl⟩
  cases n <;> exact ⟨rfl, rfl⟩

/-- a row with its highest bit turned -/
def flipL (L : List Int) : List Int := L.set (L.length - 1) (1 - L[L.length - 1]?.getD 0)
theorem flipL_length (L : List Int) : (flipL L).length = L.length := by simp [flipL]
theorem bit_flip {L : List Int} (h : Bit L) : Bit (flipL L) := by
  intro x hx
  rcases List.mem_or_eq_of_mem_set hx with hx | rfl
  · exact h x hx
  · have := bit_at h (L.length - 1); omega
theorem valL_flip (a : Int) (k : Nat) (h1 : 1 ≤ k) : valL (flipL (bitsL a k)) = sx k a + 2 ^ (k - 1) := by
  have hl := bitsL_length a k
  have e : flipL (bitsL a k) = bitsL a (k - 1) ++ [1 - a / 2 ^ (k - 1) % 2] := by
    obtain ⟨m, rfl⟩ : ∃ m, k = m + 1 := ⟨k - 1, by omega⟩
    unfold flipL
    rw [hl, Nat.add_sub_cancel, bitsL_get _ _ _ (by omega)]
    have e2 : bitsL a (m + 1) = bitsL a m ++ [a / 2 ^ m % 2] := by
      unfold bitsL; rw [List.range_succ, List.map_append]; rfl
    rw [e2, List.set_append_right _ _ (by rw [bitsL_length]; omega), bitsL_length, Nat.sub_self]
    rfl
  rw [e, valL_append, bitsL_length, valL_bits]
  unfold sx
  have hH := pow_pos' (k - 1)
  have hKH : (2 : Int) ^ k = 2 ^ (k - 1) * 2 := by rw [← Int.pow_succ]; congr 1; omega
  rw [hKH, emod_mul2 a _ hH]
  have hm0 := Int.emod_nonneg a (show (2 : Int) ^ (k - 1) ≠ 0 by omega)
  have hm1 := Int.emod_lt_of_pos a hH
  simp only [valL]
  generalize a % 2 ^ (k - 1) = m at *
  rcases Int.emod_two_eq (a / 2 ^ (k - 1)) with h | h
  · rw [h, if_pos (by omega)]; omega
  · rw [h, if_neg (by omega)]; omega

def jset (k : Nat) (a b : Int) : Bool := (List.range k).any fun i => a / 2 ^ i % 2 + b / 2 ^ i % 2 == 2

/-- two rows in two blocks, ready to be held against each other -/
structure Two (w0 w : World) (P Q : Nat) (A B : List Int) (n : Nat) : Prop where
  la : A.length = n
  lb : B.length = n
  ba : Bit A
  bb : Bit B
  ha : IntBlk w P A
  hb : IntBlk w Q B
  hB : Below w0.heap.size w0 w
  old : w0.heap.size ≤ P ∧ w0.heap.size ≤ Q ∧ P ≠ Q

theorem Two.less {w0 w : World} {P Q : Nat} {A B : List Int} {n : Nat} (h : Two w0 w P Q A B n) (hn : n ≤ 64) :
    Calls Try.prog 59 #[.slice (some ⟨P, 0, none⟩) n n, .slice (some ⟨Q, 0, none⟩) n n] w fun e w' => e = .returned (.bool (decide (valL A < valL B))) ∧ Below w0.heap.size w0 w' :=
  (less_any _ _ n n n A B w h.la h.lb hn h.ba h.bb h.ha.at_ h.hb.at_).mono fun _ _ ⟨h1, m, h2⟩ => ⟨h1, h2 ▸ below_drewN h.hB m⟩
theorem Two.more {w0 w : World} {P Q : Nat} {A B : List Int} {n : Nat} (h : Two w0 w P Q A B n) (hn : n ≤ 64) :
    Calls Try.prog 59 #[.slice (some ⟨Q, 0, none⟩) n n, .slice (some ⟨P, 0, none⟩) n n] w fun e w' => e = .returned (.bool (decide (valL B < valL A))) ∧ Below w0.heap.size w0 w' :=
  (less_any _ _ n n n B A w h.lb h.la hn h.bb h.ba h.hb.at_ h.ha.at_).mono fun _ _ ⟨h1, m, h2⟩ => ⟨h1, h2 ▸ below_drewN h.hB m⟩
theorem Two.same {w0 w : World} {P Q : Nat} {A B : List Int} {n : Nat} (h : Two w0 w P Q A B n) (hn : n ≤ 64) :
    Calls Try.prog 57 #[.slice (some ⟨P, 0, none⟩) n n, .slice (some ⟨Q, 0, none⟩) n n] w fun e w' => e = .returned (.bool (decide (valL A = valL B))) ∧ Below w0.heap.size w0 w' :=
  (same_any _ _ n n n A B w h.la h.lb hn h.ba h.bb h.ha.at_ h.hb.at_).mono fun _ _ ⟨h1, m, h2⟩ => ⟨h1, h2 ▸ below_drewN h.hB m⟩

theorem IntBlk.far {w : World} {g : Nat} {L : List Int} (h : IntBlk w g L) {p : Addr} (hp : g ≠ p.block) (u : Value) : IntBlk (w.setCell p u) g L := (Below.heap_setCell w p u g hp).trans h

theorem Two.flip {w0 w : World} {P Q : Nat} {A B : List Int} {n : Nat} (h : Two w0 w P Q A B n) :
    Two w0 ((w.setCell ⟨P, n - 1, none⟩ (.int .i64 (1 - A[n - 1]?.getD 0))).setCell ⟨Q, n - 1, none⟩ (.int .i64 (1 - B[n - 1]?.getD 0))) P Q (flipL A) (flipL B) n := by
  obtain ⟨la, lb, ba, bb, ha, hb, hB, hP, hQ, hne⟩ := h
  refine ⟨by rw [flipL_length, la], by rw [flipL_length, lb], bit_flip ba, bit_flip bb, ?_, ?_, (hB.setCell hP _).setCell hQ _, hP, hQ, hne⟩
  · have := (ha.set_ (n - 1) (1 - A[n - 1]?.getD 0)).far (p := ⟨Q, n - 1, none⟩) hne (.int .i64 (1 - B[n - 1]?.getD 0))
    unfold flipL; rw [la]; exact this
  · have := (hb.far (p := ⟨P, n - 1, none⟩) (Ne.symm hne) (.int .i64 (1 - A[n - 1]?.getD 0))).set_ (n - 1) (1 - B[n - 1]?.getD 0)
    unfold flipL; rw [lb]; exact this
end Go.Proofs.Ytmoecflmdfkgdaa
