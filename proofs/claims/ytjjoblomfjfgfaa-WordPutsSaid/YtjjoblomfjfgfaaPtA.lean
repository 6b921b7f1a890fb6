/- The document's Put: the bytes of a number by its bits. -/
import Derived.Test.YtjjoblomfjfgfaaBkG
namespace Go.Proofs.Ytjjoblomfjfgfaa
open Go.ChangeShapes Go.WideShapes Go.ChangeAt Go.RowKit
open Bits
set_option linter.unusedVariables false
set_option linter.unusedSimpArgs false

theorem Keep.blk {w w' : World} {base : Nat} {e t : TypeId} {size n m : Nat} {v v' : Value} {xs : List Value} (h : Keep w w' v v' n m) (hown : w.ownsRow base e size v n xs) {g : Nat} {cs : Array Value} (hg : Blk w g t cs) (hne : e ≠ t) : Blk w' g t cs := by
  have hb : v.ownBlock ≠ some g := own_blk_ne hown hg hne
  rcases h with ⟨g2, cap, rfl, rfl, h3⟩ | ⟨hob, h3⟩
  · exact hg.grown h3 (fun e => hb e.symm)
  · exact hg.grown h3 (fun e => by cases e)
theorem Keep.below {w w' W0 : World} {base : Nat} {e : TypeId} {size n m : Nat} {v v' : Value} {xs : List Value} (h : Keep w w' v v' n m) (hown : w.ownsRow base e size v n xs) (hb : Below base W0 w) (h0 : base ≤ w.heap.size) : Below base W0 w' := by
  rcases h with ⟨g2, cap, rfl, rfl, h3⟩ | ⟨hob, h3⟩
  · exact hb.grown h3 h0 (fun k hk => by
      injection hk with hk
      subst hk
      exact (World.ownsRow.lt hown _ rfl).1)
  · exact hb.grown h3 h0 (fun k hk => by cases hk)
theorem bits_at (w : World) (g : Nat) (v : Int) (j : Nat) (hj : j < 8) (h : IntBlk w g (bitsL v 64)) : IntsAt w (some ⟨g, 8 * j, none⟩) (bitsL (v / 2 ^ (8 * j)) 8) := fun _ => by
  refine ⟨g, 8 * j, rfl, h.lt, fun i hi => ?_⟩
  rw [bitsL_length] at hi
  rw [h.cell (8 * j + i) (by rw [bitsL_length]; omega), bitsL_get _ _ _ (by omega), bitsL_get _ _ _ hi]
  simp only [Option.getD_some]
  rw [Int.pow_add, ← Int.ediv_ediv_of_nonneg (by exact Int.le_of_lt (Int.pow_pos (by decide)))]
theorem bytesL_next (v : Int) (j : Nat) : bytesL v (j + 1) = bytesL v j ++ [v / 2 ^ (8 * j) % 256] := by
  simp [bytesL, List.range_succ]
set_option maxRecDepth 100000 in
set_option maxHeartbeats 2000000 in
theorem refPut_yes (k : Nat) (v : Int) (h1 : 1 ≤ k) (h8 : k ≤ 8) (w : World) :
    Calls Try.prog 7 #[.int .i64 k, .int .i64 v] w fun e w' => ∃ x, e = .returned x ∧ OwnB w' w.heap.size x (bytesL v k) ∧ Below w.heap.size w w' := by
  have hr := Lib.hid (row_any v 64 (by decide) w)
  go_enter Try.func7, Try.ntmps7
  go_wp2_with (go_at_call 16; refine hr.out.mono ?_; rintro e w1 ⟨rfl, hb1, hB1, hs1⟩)
  clear hr
  have HB1 := Lib.hid (show IntBlk w1 w.heap.size (bitsL v 64) ∧ Below w.heap.size w w1 from ⟨hb1, hB1⟩)
  clear hb1 hB1 hs1
  go_loopw [5, 7] (fun y i wr => ∃ j : Nat, j ≤ k ∧ i = .int .i64 j ∧ OwnB wr w.heap.size y (bytesL v j) ∧ IntBlk wr w.heap.size (bitsL v 64) ∧ Below w.heap.size w wr) (fun _ i _ => (k - intOf i).toNat)
  case atStart => exact ⟨0, Nat.zero_le _, rfl, OwnB.nil _ _, HB1.out.1, HB1.out.2⟩
  case round =>
    clear HB1
    obtain ⟨j, hj, rfl, hO, hI, hB⟩ := hrel
    by_cases hlt : j < k
    · have f1 : (j : Int) < k := by omega
      have f0 : (0 : Int) ≤ 8 * (j : Int) := by omega
      have f2 : (8 * (j : Int)).toNat = 8 * j := by omega
      have f3 : (8 * (j : Int) + 8).toNat = 8 * j + 8 := by omega
      obtain ⟨A, c, rfl, -⟩ := hO.form
      rw [bytesL_length] at hO ⊢
      have hnum := number_any (some ⟨w.heap.size, 8 * j, none⟩) (64 - 8 * j) (bitsL (v / 2 ^ (8 * j)) 8) wr (by rw [bitsL_length]; decide) (bits_at wr w.heap.size v j (by omega) hI)
      rw [valL_bits, bitsL_length] at hnum
      have hrange : 0 ≤ v / 2 ^ (8 * j) % 256 ∧ v / 2 ^ (8 * j) % 256 < 256 := ⟨Int.emod_nonneg _ (by decide), Int.emod_lt_of_pos _ (by decide)⟩
      have hw1 : wrap64 (v / 2 ^ (8 * j) % 2 ^ 8) = v / 2 ^ (8 * j) % 256 := by
        rw [show (2 : Int) ^ 8 = 256 from rfl]
        unfold wrap64; omega
      rw [hw1] at hnum
      have HE := Lib.hid (bytesL_next v j)
      have hlen := Lib.hid (show (bytesL v j).length + 1 ≤ 1099511627776 by rw [bytesL_length]; omega)
      have hL := Lib.hid (bytesL_length v j)
      clear hw1
      generalize v / 2 ^ (8 * j) % 256 = y at *
      generalize bytesL v j = T at *
      have hu8 : IntKind.u8.wrap y = y := by simp only [IntKind.wrap, IntKind.signed, IntKind.bits]; simp; omega
      have HN := Lib.hid hnum
      have HO := Lib.hid (show ∀ o, OwnB (wr.alloc o) w.heap.size (.slice A j c) T from fun o => World.ownsRow.alloc hO o)
      have HI := Lib.hid (show ∀ o, IntBlk (wr.alloc o) w.heap.size (bitsL v 64) from fun o => Blk.alloc hI o)
      have HB := Lib.hid (show ∀ o, Below w.heap.size w (wr.alloc o) from fun o => hB.alloc hB.size o)
      have hq := Lib.hid (@append_byte1 Try.prog Try.underlying27 byte_info)
      clear hnum hO hI hB hrange
      go_wp2_with (first
        | (go_at_call 17; refine HN.out.mono ?_; rintro e w2 ⟨rfl, rfl⟩)
        | (at_builtin; apply hq.out; (case hgd => rfl); (case ho => rfl); (case hs => rfl); (case hown => exact HO.out _); (case hx => rfl); (case hc => exact cell_new0 _ _ _); (case hlen => exact hlen.out); (case hbase => exact (HB.out _).size); intro v' w' hown' hkeep))
      have hkp : Keep (wr.alloc (.cells #[.int .u8 y] 5)) w' (.slice A j c) v' j 1 := by
        have := hkeep
        rw [hL.out] at this
        exact this
      have hO2 := HO.out (.cells #[.int .u8 y] 5)
      unfold OwnB at hO2
      rw [hL.out] at hO2
      exact ⟨⟨j + 1, by omega, rfl, by rw [HE.out]; exact hown', hkp.blk hO2 (HI.out _) (by decide), hkp.below hO2 (HB.out _) (HB.out _).size⟩, by simp [intOf]; omega⟩
    · have f1 : decide ((j : Int) < k) = false := by simp; omega
      obtain rfl : j = k := by omega
      go_wp2_with fail
      go_ret
      exact ⟨_, rfl, hO, hB⟩
theorem refPut_no (k v : Int) (h : k < 1 ∨ 8 < k) (w : World) :
    Calls Try.prog 7 #[.int .i64 k, .int .i64 v] w fun e w' => ∃ x, e = .returned x ∧ OwnB w' w.heap.size x [] ∧ Below w.heap.size w w' := by
  rcases h with h | h
  all_goals
    go_enter Try.func7, Try.ntmps7
    go_wp2_with fail
    go_ret
    exact ⟨_, rfl, OwnB.nil _ _, Below.refl _ _⟩
end Go.Proofs.Ytjjoblomfjfgfaa
