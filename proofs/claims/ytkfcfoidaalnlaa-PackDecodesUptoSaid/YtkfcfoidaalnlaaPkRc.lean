/- Package pack: the document's own word on sizes. -/
import Derived.Test.YtkfcfoidaalnlaaPkRb
namespace Go.Proofs.Ytkfcfoidaalnlaa.Pak
open Go.ChangeShapes Go.WideShapes Go.ChangeAt Go.RowKit
set_option linter.unusedVariables false
set_option linter.unusedSimpArgs false
set_option maxRecDepth 100000
set_option maxHeartbeats 4000000 in
theorem rsizes_any (w : World) (lo hi : Int) (Ad : Option Addr) (nd cd : Nat) (A : Option Addr) (n c : Nat) (T : List (Int × Int)) (hL : T.length = n) (hn : n ≤ 1152921504606846976) (hA : RowsAt w A 2 tabF T) :
    Calls Try.prog 26 #[.int .i64 lo, .int .i64 hi, .slice Ad nd cd, .slice A n c] w (RetB w (.int .i64 (sizesE lo hi T nd))) := by
  obtain ⟨e, he⟩ : ∃ e, e = sizesE lo hi T nd := ⟨_, rfl⟩
  rw [← he]
  have HE := Lib.hid he
  have HL := Lib.hid hL
  have HA := Lib.hid hA
  clear he hL hA
  go_enter Try.func26, Try.ntmps26
  by_cases h0 : lo < 0
  · have t0 : decide (lo < 0) = true := decide_eq_true h0
    have HX := Lib.hid (show e = 121 by rw [HE.out]; unfold sizesE; rw [if_pos (by omega)])
    clear h0
    go_wp2_with fail
    go_ret
    exact ⟨by rw [HX.out]; rfl, Below.refl _ _⟩
  have t0 : decide (lo < 0) = false := decide_eq_false h0
  by_cases h1 : hi < lo
  · have t1 : decide (hi < lo) = true := decide_eq_true h1
    have HX := Lib.hid (show e = 121 by rw [HE.out]; unfold sizesE; rw [if_pos (by omega)])
    clear h0 h1
    go_wp2_with fail
    go_ret
    exact ⟨by rw [HX.out]; rfl, Below.refl _ _⟩
  have t1 : decide (hi < lo) = false := decide_eq_false h1
  by_cases h2 : 65535 < hi
  · have t2 : decide (65535 < hi) = true := decide_eq_true h2
    have HX := Lib.hid (show e = 121 by rw [HE.out]; unfold sizesE; rw [if_pos (by omega)])
    clear h0 h1 h2
    go_wp2_with fail
    go_ret
    exact ⟨by rw [HX.out]; rfl, Below.refl _ _⟩
  have t2 : decide (65535 < hi) = false := decide_eq_false h2
  have HIN := Lib.hid (show 0 ≤ lo ∧ lo ≤ hi ∧ hi ≤ 65535 by omega)
  clear h0 h1 h2
  have HE2 := Lib.hid (show e = if 8 < T.length ∨ T.all okT = false then 122 else if 4096 < nd then 123 else 0 by rw [HE.out]; unfold sizesE; rw [if_neg (by have := HIN.out; omega)])
  clear HE
  by_cases h8 : 8 < n
  · have t3 : decide (8 < (n : Int)) = true := decide_eq_true (by omega)
    have HX := Lib.hid (show e = 122 by rw [HE2.out, if_pos (.inl (by rw [HL.out]; exact h8))])
    clear h8
    go_wp2_with fail
    go_ret
    exact ⟨by rw [HX.out]; rfl, Below.refl _ _⟩
  have t3 : decide (8 < (n : Int)) = false := decide_eq_false (by omega)
  have hn8 : n ≤ 8 := by omega
  clear h8
  go_wp2_with fail
  go_loopw [9, 10, 25, 26, 27, 28, 29, 30, 31, 32, 33, 34, 35, 36, 37, 38, 39, 40, 41, 42, 43, 44, 45, 46, 47, 48, 49, 50, 51, 52] (fun a9 _ _ _ _ _ _ _ _ _ _ _ _ _ _ _ _ _ _ _ _ _ _ _ _ _ _ _ _ _ wr => ∃ (j : Nat), a9 = .int .i64 j ∧ j ≤ n ∧ Hid ((T.drop j).all okT = T.all okT) ∧ Below w.heap.size w wr) (fun a9 _ _ _ _ _ _ _ _ _ _ _ _ _ _ _ _ _ _ _ _ _ _ _ _ _ _ _ _ _ _ => (n - (intOf a9)).toNat)
  case atStart => exact ⟨0, rfl, Nat.zero_le _, Lib.hid rfl, Below.refl _ _⟩
  case round =>
    obtain ⟨j, rfl, hj, HT, hB⟩ := hrel
    have HB := Lib.hid hB
    clear hB
    by_cases hlt : j < n
    · have hlt' : (j : Int) < n := by omega
      obtain ⟨x, hx, hdr⟩ := drop_cons (l := T) (j := j) (by have := HL.out; omega)
      rw [hdr] at HT
      obtain ⟨b, off, rfl, hbl, hcell⟩ := (HA.out.below HB.out) (by have := HL.out; omega)
      have HX := Lib.hid (hcell j x hx)
      clear hdr hcell hx
      obtain ⟨r, d⟩ := x
      obtain ⟨X, hX⟩ : ∃ X, X = tabF (r, d) := ⟨_, rfl⟩
      rw [← hX] at HX
      have HX1 := Lib.hid (show ∀ q, q < 2 → (X q).oneCell' = true by rw [hX]; exact tabF_one _)
      have HXX := Lib.hid hX
      clear hX
      go_upto_region 9 with (first
        | (refine wpList_load_cells rfl 60 _ rfl b (off + j * 2) rfl 2 X _ HX.out Try.underlying60 rfl sizeTab ?_)
        | (refine wpList_alloc_seg rfl 60 rfl 2 (tabF (0, 0)) zeroTab ?_; intro w2 h2 hB2 hs2)
        | (refine wpList_store_all rfl 60 _ _ rfl wr.heap.size 60 2 _ X rfl rfl h2 sizeTab HX1.out ?_; intro w3 h3 hT3 hs3))
      obtain ⟨gb, hgb⟩ : ∃ gb, gb = wr.heap.size := ⟨_, rfl⟩
      have hbw : Below wr.heap.size wr w3 := hB2.trans (hT3.below (Nat.le_refl _) hB2.size)
      rw [← hgb] at h3 ⊢
      have y0 : w3.cell? ⟨gb, 0, none⟩ = some (.int .i64 r) := by rw [h3.cell 0 (by decide), HXX.out]; rfl
      have y1 : w3.cell? ⟨gb, 1, none⟩ = some (.int .i64 d) := by rw [h3.cell 1 (by decide), HXX.out]; rfl
      have HB3 := Lib.hid (HB.out.trans (hbw.mono HB.out.size))
      clear h2 hB2 h3 hT3 hs2 hs3 hgb hbw HX HXX HX1 HB
      by_cases r0 : r < 1
      · have q0 : decide (r < 1) = true := decide_eq_true r0
        have HX := Lib.hid (show e = 122 by
          rw [HE2.out, if_pos]
          right
          rw [← HT.out, List.all_cons, show okT (r, d) = false by unfold okT; simp; omega]; rfl)
        clear r0
        go_wp2_with fail
        go_ret
        exact ⟨by rw [HX.out]; rfl, HB3.out⟩
      have q0 : decide (r < 1) = false := decide_eq_false r0
      by_cases r1 : 64 < r
      · have q1 : decide (64 < r) = true := decide_eq_true r1
        have HX := Lib.hid (show e = 122 by
          rw [HE2.out, if_pos]
          right
          rw [← HT.out, List.all_cons, show okT (r, d) = false by unfold okT; simp; omega]; rfl)
        clear r0 r1
        go_wp2_with fail
        go_ret
        exact ⟨by rw [HX.out]; rfl, HB3.out⟩
      have q1 : decide (64 < r) = false := decide_eq_false r1
      by_cases d0 : d < 1
      · have q2 : decide (d < 1) = true := decide_eq_true d0
        have HX := Lib.hid (show e = 122 by
          rw [HE2.out, if_pos]
          right
          rw [← HT.out, List.all_cons, show okT (r, d) = false by unfold okT; simp; omega]; rfl)
        clear r0 r1 d0
        go_wp2_with fail
        go_ret
        exact ⟨by rw [HX.out]; rfl, HB3.out⟩
      have q2 : decide (d < 1) = false := decide_eq_false d0
      by_cases d1 : 64 < d
      · have q3 : decide (64 < d) = true := decide_eq_true d1
        have HX := Lib.hid (show e = 122 by
          rw [HE2.out, if_pos]
          right
          rw [← HT.out, List.all_cons, show okT (r, d) = false by unfold okT; simp; omega]; rfl)
        clear r0 r1 d0 d1
        go_wp2_with fail
        go_ret
        exact ⟨by rw [HX.out]; rfl, HB3.out⟩
      have q3 : decide (64 < d) = false := decide_eq_false d1
      have HT2 := Lib.hid (show (T.drop (j + 1)).all okT = T.all okT by
        rw [← HT.out, List.all_cons, show okT (r, d) = true by unfold okT; simp; omega]; rfl)
      clear r0 r1 d0 d1 HT
      go_wp2_with fail
      go_roundw
      case rel => exact ⟨j + 1, by go_num, by omega, HT2, HB3.out⟩
      case measure => simp [intOf]; omega
    · obtain rfl : j = n := by omega
      have HOK := Lib.hid (show T.all okT = true by rw [← HT.out, List.drop_of_length_le (by have := HL.out; omega)]; rfl)
      have HE3 := Lib.hid (show e = if 4096 < nd then 123 else 0 by rw [HE2.out, if_neg (by rw [HOK.out, HL.out]; simp; omega)])
      clear HT hlt HE2 HA
      by_cases hd : 4096 < nd
      · have t4 : decide (4096 < (nd : Int)) = true := decide_eq_true (by omega)
        rw [if_pos hd] at HE3
        clear hd
        go_wp2_with fail
        go_ret
        exact ⟨by rw [HE3.out]; rfl, HB.out⟩
      · have t4 : decide (4096 < (nd : Int)) = false := decide_eq_false (by omega)
        rw [if_neg hd] at HE3
        clear hd
        go_wp2_with fail
        go_ret
        exact ⟨by rw [HE3.out]; rfl, HB.out⟩
end Go.Proofs.Ytkfcfoidaalnlaa.Pak
