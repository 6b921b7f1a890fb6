/- DeedForth: whatever bytes are read, the deed that they tell is written as those bytes. -/
import Derived.Test.YtbomihdnnidelaaDSf
namespace Go.Proofs.Ytbomihdnnidelaa
open Go.ChangeShapes Go.WideShapes Go.ChangeAt Go.RowKit
open Dee
set_option linter.unusedVariables false
set_option linter.unusedSimpArgs false
set_option maxRecDepth 100000
theorem decD_nz {L : List Int} {a : Nat} {e : Int} (h : decD L = .error (a, e)) : e ≠ 0 := by
  unfold decD at h
  by_cases hl : 4194304 < L.length
  · rw [if_pos hl] at h
    injection h with h
    injection h with h1 h2
    omega
  · rw [if_neg hl] at h
    cases he : endR L with
    | ok x => rw [he] at h; cases h
    | error x =>
      obtain ⟨x, t⟩ := x
      rw [he] at h
      injection h with h
      injection h with h1 h2
      rw [← h2]
      exact nz_end L _ _ he
theorem enc_read {d : De} (h : deG d) (hl : (deW d).length ≤ 4194304) : encD (mdOf d) = 0 := by
  have h1 := mdOf_good h
  unfold encD
  rw [if_neg (by rw [h1.1]; decide), h1.2, if_neg (by omega)]
set_option maxHeartbeats 8000000 in
theorem deedForth_any (w : World) (A : Option Addr) (n c : Nat) (L : List Int) (hL : L.length = n) (hc : n ≤ c) (hn : n ≤ 140737488355328) (hA : BytesAt w A L) (hAl : ∀ b off, A = some ⟨b, off, none⟩ → b < w.heap.size) (hB : Bytes L) :
    Calls Try.prog 8 #[.slice A n c] w (RetB w (.bool true)) := by
  have HL := Lib.hid hL
  have HY0 := Lib.hid hA
  have HBY := Lib.hid hB
  have HAL := Lib.hid hAl
  clear hL hA hB hAl
  go_enter Try.func8, Try.ntmps8
  go_wp2_with fail
  refine (known_any w).mono ?_
  rintro e w1 ⟨rfl, hB1⟩
  have HB1 := Lib.hid hB1
  have HY1 := Lib.hid (bytes_below HY0.out hB1)
  clear hB1 HY0
  go_wp2_with fail
  refine (decode_any w1 A n c L HL.out hc (by omega) HY1.out (fun b off e => Nat.lt_of_lt_of_le (HAL.out b off e) HB1.out.size) HBY.out).mono ?_
  rintro e w5 ⟨hB5, h5⟩
  have HB5 := Lib.hid (HB1.out.trans (hB5.mono HB1.out.size))
  have HY5 := Lib.hid (bytes_below HY1.out hB5)
  cases hd : decD L with
  | error x =>
    obtain ⟨a, er⟩ := x
    rw [hd] at h5
    simp only at h5
    subst h5
    have hnz := decD_nz hd
    have hat := decD_at hd
    rw [HL.out] at hat
    have tz : (er == 0) = false := by rw [beq_eq_false_iff_ne]; exact hnz
    have ta : decide ((0 : Int) ≤ a) = true := decide_eq_true (by omega)
    have tb : decide ((a : Int) ≤ n) = true := decide_eq_true (by omega)
    rw [show nilDeed = .agg (arr 2 (deF (.slice none 0 0) (.slice none 0 0))) from rfl]
    obtain ⟨N, hN⟩ : ∃ N, N = deF (.slice none 0 0) (.slice none 0 0) := ⟨_, rfl⟩
    have HON := Lib.hid (show ∀ q, q < 2 → (N q).oneCell' = true by rw [hN]; exact deF_one rfl rfl)
    rw [← hN]
    have HNN := Lib.hid hN
    clear hN hB5 hnz hd HB1 HY1
    go_upto_region 4 with (first
      | (refine wpList_alloc_seg rfl 26 rfl 2 (deF (.slice none 0 0) (.slice none 0 0)) zeroDeed ?_; intro w6 h6 hB6 hs6)
      | (refine wpList_store_all rfl 26 _ _ rfl w5.heap.size 26 2 _ N rfl rfl h6 sizeDeed HON.out ?_; intro w7 h7 hT7 hs7))
    obtain ⟨g, hg⟩ : ∃ g, g = w5.heap.size := ⟨_, rfl⟩
    rw [← hg] at h6 h7 hT7 ⊢
    have hbw : Below w5.heap.size w5 w7 := hB6.trans (hT7.below (by omega) hB6.size)
    have HB7 := Lib.hid (HB5.out.trans (hbw.mono HB5.out.size))
    have q0 : w7.cell? ⟨g, 0, none⟩ = some (.slice none 0 0) := by rw [h7.cell 0 (by decide), HNN.out]; rfl
    have q1 : w7.cell? ⟨g, 1, none⟩ = some (.slice none 0 0) := by rw [h7.cell 1 (by decide), HNN.out]; rfl
    clear h6 hB6 hs6 h7 hT7 hs7 hg hbw HB5
    go_wp2_with fail
    go_ret
    exact ⟨rfl, HB7.out⟩
  | ok d =>
    rw [hd] at h5
    obtain ⟨vl5, vc5, cvs, rfl, hDI⟩ := h5
    obtain ⟨hLW, hG, hl4⟩ := decD_ok HBY.out hd
    have HE5 := Lib.hid (hDI.at_ hG)
    rw [show (Value.agg #[vl5, vc5]) = .agg (arr 2 (deF vl5 vc5)) from rfl]
    obtain ⟨U, hU⟩ : ∃ T, T = deF vl5 vc5 := ⟨_, rfl⟩
    have HO' := Lib.hid (show ∀ q, q < 2 → (U q).oneCell' = true by obtain ⟨A, m, c, A', m', c', e1, e2, _, _⟩ := HE5.out.forms; rw [hU, e1, e2]; exact deF_one rfl rfl)
    rw [← hU]
    have HUU := Lib.hid hU
    have HEN := Lib.hid (enc_read hG (by rw [← hLW]; exact hl4))
    have HTD := Lib.hid (mdOf_good hG).2
    have HLW := Lib.hid hLW
    clear hU hB5 hDI hd hLW hG hl4 HB1 HY1
    go_upto_region 4 with (first
      | (refine wpList_alloc_seg rfl 26 rfl 2 (deF (.slice none 0 0) (.slice none 0 0)) zeroDeed ?_; intro w6 h6 hB6 hs6)
      | (refine wpList_store_all rfl 26 _ _ rfl w5.heap.size 26 2 _ U rfl rfl h6 sizeDeed HO'.out ?_; intro w7 h7 hT7 hs7))
    obtain ⟨g, hg⟩ : ∃ g, g = w5.heap.size := ⟨_, rfl⟩
    rw [← hg] at h6 h7 hT7 ⊢
    have hbw : Below w5.heap.size w5 w7 := hB6.trans (hT7.below (by omega) hB6.size)
    have HG7 := Lib.hid h7
    have HB7 := Lib.hid (HB5.out.trans (hbw.mono HB5.out.size))
    have HE7 := Lib.hid (HE5.out.up hbw)
    have HY7 := Lib.hid (bytes_below HY5.out hbw)
    clear h6 hB6 hs6 h7 hT7 hs7 hg hbw HB5 HE5 HY5
    go_wp2_with (refine wpList_load_all rfl 26 _ rfl g rfl 26 2 U _ HG7.out Try.underlying26 rfl sizeDeed ?_)
    go_at_call 13
    rw [HUU.out]
    refine (encode_any w7 _ _ (mdOf d) HE7.out).mono ?_
    rintro e w8 ⟨hB8, v, rfl, hv⟩
    rw [HEN.out, if_pos rfl, HTD.out] at hv
    rw [HEN.out, ← HUU.out]
    obtain ⟨A8, c8, rfl, hA8⟩ := hv.2.form
    have HB8 := Lib.hid (HB7.out.trans (hB8.mono HB7.out.size))
    have HY8 := Lib.hid (bytes_below HY7.out hB8)
    rw [← HLW.out] at hA8 ⊢
    rw [HL.out]
    have HZ8 := Lib.hid hA8
    clear hB8 hv hA8 HG7 HB7 HE7 HY7
    go_wp2_with fail
    refine (sameBytes_any w8 A n c A8 n c8 L L HL.out HL.out HY8.out HZ8.out HBY.out HBY.out).mono ?_
    rintro e u ⟨rfl, rfl⟩
    rw [decide_eq_true rfl]
    go_wp2_with fail
    go_ret
    exact ⟨rfl, HB8.out⟩
end Go.Proofs.Ytbomihdnnidelaa
