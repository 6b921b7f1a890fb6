/- The document's Get: the number of bytes by their bits. -/
import Derived.Test.YtjhgjplhhhgfcaaOwnI
import Derived.Test.YtjhgjplhhhgfcaaPut
namespace Go.Proofs.Ytjhgjplhhhgfcaa
open Go.ChangeShapes Go.WideShapes Go.ChangeAt Go.RowKit
open Bits
set_option linter.unusedVariables false

/-- the bits of bytes -/
def bitsOf : List Int → List Int
  | [] => []
  | x :: t => bitsL x 8 ++ bitsOf t
theorem bitsOf_length (L : List Int) : (bitsOf L).length = 8 * L.length := by
  induction L with
  | nil => rfl
  | cons x t ih => rw [bitsOf, List.length_append, bitsL_length, ih, List.length_cons]; omega
theorem bitsOf_append (a b : List Int) : bitsOf (a ++ b) = bitsOf a ++ bitsOf b := by
  induction a with
  | nil => rfl
  | cons x t ih => rw [List.cons_append, bitsOf, ih, bitsOf, List.append_assoc]
theorem bitsOf_bit (L : List Int) : Bit (bitsOf L) := by
  induction L with
  | nil => intro x hx; cases hx
  | cons x t ih =>
    intro y hy
    rw [bitsOf, List.mem_append] at hy
    rcases hy with h | h
    · exact bit_bits x 8 y h
    · exact ih y h
theorem bitsOf_val {L : List Int} (h : Byt L) : valL (bitsOf L) = valB L := by
  induction L with
  | nil => rfl
  | cons x t ih =>
    have hx := h x (by simp)
    rw [bitsOf, valL_append, valL_bits, bitsL_length, ih (fun y hy => h y (by simp [hy])), valB, show (2 : Int) ^ 8 = 256 from rfl]
    omega
theorem bitsOf_eq {L : List Int} (h : Byt L) : bitsOf L = bitsL (valB L) (8 * L.length) := by
  refine valL_inj (bitsOf_bit L) (bit_bits _ _) (by rw [bitsOf_length, bitsL_length]) ?_
  rw [bitsOf_val h, valL_bits]
  have := valB_rng h
  rw [Int.emod_eq_of_lt this.1 this.2]
theorem bitsOf_step (L : List Int) (j : Nat) (h : j < L.length) : bitsOf (L.take (j + 1)) = bitsOf (L.take j) ++ bitsL (L[j]?.getD 0) 8 := by
  rw [List.take_succ_eq_append_getElem h, bitsOf_append, List.getElem?_eq_getElem h]
  simp [bitsOf]
theorem sx_64 (x : Int) : sx 64 x = wrap64 x := by
  unfold sx
  have e1 : (2 : Int) ^ 64 = 18446744073709551616 := by decide
  have e2 : (2 : Int) ^ (64 - 1) = 9223372036854775808 := by decide
  rw [e1, e2]
  unfold wrap64
  split <;> omega
theorem get_signed {L : List Int} (h : Byt L) (h8 : L.length ≤ 8) : sgnL (bitsOf L) = getV L true := by
  rcases Nat.eq_zero_or_pos L.length with h0 | h0
  · obtain rfl : L = [] := List.eq_nil_of_length_eq_zero h0
    simp [bitsOf, sgnL, getV]
  · unfold getV
    rw [if_neg (by omega), if_pos rfl, bitsOf_eq h]
    by_cases h7 : L.length < 8
    · exact sgnL_bits _ _ (by omega) (by omega)
    · have e : 8 * L.length = 64 := by omega
      rw [e, sx_64]
      unfold sgnL
      rw [if_pos (by rw [bitsL_length]), valL_bits]
      have := valB_rng h
      rw [e] at this
      rw [Int.emod_eq_of_lt this.1 this.2]
theorem get_plain {L : List Int} (h : Byt L) (h8 : L.length ≤ 8) : wrap64 (valL (bitsOf L)) = getV L false := by
  rw [bitsOf_val h]
  rcases Nat.eq_zero_or_pos L.length with h0 | h0
  · obtain rfl : L = [] := List.eq_nil_of_length_eq_zero h0
    simp [valB, getV, wrap64]
  · unfold getV
    rw [if_neg (by omega), if_neg Bool.false_ne_true]

theorem own_below {w w' : World} {base size n : Nat} {e : TypeId} {v : Value} {xs : List Value} (h : w.ownsRow base e size v n xs) (hb : Below w.heap.size w w') : w'.ownsRow base e size v n xs := by
  refine ⟨h.1, ?_⟩
  rcases h.2 with h1 | ⟨g, cap, cur, hv, hg, hh, h1⟩
  · exact .inl h1
  · have hlt : g < w.heap.size := by
      rcases Nat.lt_or_ge g w.heap.size with h2 | h2
      · exact h2
      · rw [Array.getElem?_eq_none h2] at hh; cases hh
    exact .inr ⟨g, cap, cur, hv, hg, (hb.block g hlt).trans hh, h1⟩
theorem OwnI.below {w w' : World} {base : Nat} {v : Value} {L : List Int} (h : OwnI w base v L) (hb : Below w.heap.size w w') : OwnI w' base v L := own_below h hb

set_option maxHeartbeats 1000000 in
theorem refGet_no (A : Option Addr) (n c : Nat) (s : Bool) (h : 8 < n) (hn : n ≤ 9223372036854775807) (w : World) :
    Calls Try.prog 31 #[.slice A n c, .bool s] w fun e w' => e = .returned (.int .i64 0) ∧ w = w' := by
  go_enter Try.func31, Try.ntmps31
  go_wp2_with fail
  go_ret
  exact ⟨rfl, rfl⟩

set_option maxHeartbeats 1000000 in
theorem refGet_yes (A : Option Addr) (n c : Nat) (L : List Int) (s : Bool) (hL : L.length = n) (h8 : n ≤ 8) (hb : Byt L) (w : World) (h : BytesAt w A L) :
    Calls Try.prog 31 #[.slice A n c, .bool s] w fun e w' => e = .returned (.int .i64 (getV L s)) ∧ Below w.heap.size w w' := by
  have HL := Lib.hid hL
  have HS := Lib.hid (show sgnL (bitsOf L) = getV L true from get_signed hb (by omega))
  have HP := Lib.hid (show wrap64 (valL (bitsOf L)) = getV L false from get_plain hb (by omega))
  have H := Lib.hid h
  have hown := OwnI.nil w w.heap.size
  have HB := Lib.hid hb
  clear hL h hb
  go_enter Try.func31, Try.ntmps31
  go_wp2_with fail
  go_loopw [5, 6] (fun v i wr => ∃ j : Nat, j ≤ n ∧ i = .int .i64 j ∧ OwnI wr w.heap.size v (bitsOf (L.take j)) ∧ Below w.heap.size w wr) (fun _ i _ => (n - intOf i).toNat)
  case atStart => exact ⟨0, Nat.zero_le _, rfl, hown, Below.refl _ _⟩
  case round =>
    clear hown
    obtain ⟨j, hj, rfl, hown, hB⟩ := hrel
    by_cases hlt : j < n
    · have hlt' : (j : Int) < n := by omega
      obtain ⟨b, off, rfl, hbl, hc⟩ := H.out (by have := HL.out; omega)
      have hx := (hB.cell (p := ⟨b, off + j, none⟩) hbl).trans (hc j (by have := HL.out; omega))
      have hy := byt_at HB.out j
      have HT := Lib.hid (bitsOf_step L j (by have := HL.out; omega))
      have hlen : (bitsOf (L.take j)).length ≤ 64 := by rw [bitsOf_length, List.length_take]; omega
      obtain ⟨hy0, hy1⟩ := hy
      clear hc
      generalize L[j]?.getD 0 = x at *
      generalize bitsOf (L.take j) = T at *
      go_wp2_with fail
      refine (row_n _ _ 8 (by decide) (by decide) _).mono ?_
      rintro e w1 ⟨rfl, hblk, hB1, hs1⟩
      have hB2 := hB.trans (hB1.mono hB.size)
      have hown1 := hown.below hB1
      have hc5 : w.heap.size ≤ w1.heap.size := by have := hB2.size; omega
      have hat8 := hblk.at_
      have HM := Lib.hid (bitsL_length x 8)
      clear hown hB1 hs1 hblk hx
      go_wp2_with (at_builtin; (refine append_ints Try.underlying63 int_info _ rfl (.tmp 16) (.tmp 22) rfl w.heap.size _ _ rfl hown1 _ 8 _ _ rfl HM.out hat8 (by omega) hc5 ?_; intro v' w' hown' hB'))
      go_roundw
      case rel => exact ⟨j + 1, by omega, by go_num, by rw [HT.out]; exact hown', hB2.trans hB'⟩
      case measure => simp [intOf]; omega
    · have hn : decide ((j : Int) < n) = false := by simp; omega
      have hj' : j = n := by omega
      have hv : L.take j = L := List.take_of_length_le (by have := HL.out; omega)
      rw [hv] at hown
      obtain ⟨A1, c1, rfl, hat1⟩ := hown.form
      have hl1 : (bitsOf L).length ≤ 64 := by rw [bitsOf_length]; have := HL.out; omega
      have HBit := Lib.hid (bitsOf_bit L)
      clear hv hown
      generalize bitsOf L = T at *
      cases s
      · go_wp2_with ((refine (number_any _ _ _ _ (by omega) hat1).mono ?_); rintro e w' ⟨rfl, rfl⟩)
        go_ret
        exact ⟨by rw [← HP.out]; rfl, hB⟩
      · go_wp2_with ((refine (signed_any _ _ _ _ HBit.out hl1 hat1).mono ?_); rintro e w' ⟨rfl, nq, rfl⟩)
        go_ret
        exact ⟨by rw [← HS.out]; rfl, below_drewN hB nq⟩
end Go.Proofs.Ytjhgjplhhhgfcaa
