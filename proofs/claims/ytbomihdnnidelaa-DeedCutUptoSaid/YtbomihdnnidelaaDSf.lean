/- Package deed: what is known ahead of every law. -/
import Derived.Test.YtbomihdnnidelaaDSe
namespace Go.Proofs.Ytbomihdnnidelaa
open Go.ChangeShapes Go.WideShapes Go.ChangeAt Go.RowKit
open Dee
set_option linter.unusedVariables false
set_option linter.unusedSimpArgs false
set_option maxRecDepth 100000
theorem small_byt : Bytes smallB := small_bytes ▸ de_codec.bytes _ (deed_good small_good).2
theorem nine_byt : Bytes [87, 65, 82, 49, 9] := by intro x hx; simp at hx; unfold IsB; omega
theorem small_enc : encD smallMd = 0 := by
  unfold encD
  rw [if_neg (by rw [small_good]; decide), small_bytes, if_neg (by decide)]
theorem small_same : sameDb smallMd (mdOf (toDe smallMd)) = true := by
  rw [sameDb_iff]
  have h := deed_back small_good
  obtain ⟨h1, h2, h3⟩ := h
  refine ⟨h1.symm, h2.symm, fun k a b ha hb => ?_⟩
  obtain ⟨g1, g2, g3⟩ := h3 k b a hb ha
  exact ⟨g1.symm, fun i hi => (g2 i hi).symm, g3.symm⟩
theorem fb_at {w : World} {g : Nat} {t : TypeId} {n : Nat} {f : Nat → Value} (h : FB w g t n f) : ∀ k, k < n → w.cell? ⟨g, 0 + k, none⟩ = some (f k) := fun k hk => by rw [Nat.zero_add]; exact h.cell k hk
theorem bytes_below {w w' : World} {A : Option Addr} {L : List Int} (h : BytesAt w A L) (hb : Below w.heap.size w w') : BytesAt w' A L := fun hp => by
  obtain ⟨b, off, e, hl, hc⟩ := h hp
  exact ⟨b, off, e, Nat.lt_of_lt_of_le hl hb.size, fun i hi => (cell_same (hb.block b hl) _).trans (hc i hi)⟩
set_option maxHeartbeats 8000000 in
theorem known_any (w : World) : Calls Try.prog 11 #[] w (RetB w (.bool true)) := by
  go_enter Try.func11, Try.ntmps11
  go_wp2_with fail
  refine (small_any w).mono ?_
  rintro e w1 ⟨hB1, vc, bb, rfl, hat, hby, hlt⟩
  have HB1 := Lib.hid hB1
  have HD1 := Lib.hid hat
  have HY1 := Lib.hid hby
  obtain ⟨T, hT⟩ : ∃ T, T = deF (.slice none 0 0) vc := ⟨_, rfl⟩
  have HO := Lib.hid (show ∀ q, q < 2 → (T q).oneCell' = true by obtain ⟨A, m, c, A', m', c', e1, e2, _, _⟩ := hat.forms; rw [hT, e2]; exact deF_one rfl rfl)
  rw [← hT]
  have HTT := Lib.hid hT
  clear hT hB1 hat hby hlt
  go_upto_region 2 with (first
    | (refine wpList_alloc_seg rfl 26 rfl 2 (deF (.slice none 0 0) (.slice none 0 0)) zeroDeed ?_; intro w2 h2 hB2 hs2)
    | (refine wpList_store_all rfl 26 _ _ rfl w1.heap.size 26 2 _ T rfl rfl h2 sizeDeed HO.out ?_; intro w3 h3 hT3 hs3))
  obtain ⟨g1, hg1⟩ : ∃ g, g = w1.heap.size := ⟨_, rfl⟩
  rw [← hg1] at h2 h3 hT3 ⊢
  have hbw : Below w1.heap.size w1 w3 := hB2.trans (hT3.below (by omega) hB2.size)
  have HF3 := Lib.hid h3
  have HB3 := Lib.hid (HB1.out.trans (hbw.mono HB1.out.size))
  have HD3 := Lib.hid (HD1.out.up hbw)
  have HY3 := Lib.hid (bytes_below HY1.out hbw)
  clear h2 hB2 hs2 h3 hT3 hs3 hg1 hbw HB1 HD1 HY1
  go_wp2_with (refine wpList_load_all rfl 26 _ rfl g1 rfl 26 2 T _ HF3.out Try.underlying26 rfl sizeDeed ?_)
  go_at_call 13
  rw [HTT.out]
  refine (encode_any w3 _ _ smallMd HD3.out).mono ?_
  rintro e w4 ⟨hB4, v, rfl, hv⟩
  rw [small_enc, if_pos rfl, small_bytes] at hv
  rw [small_enc, ← HTT.out]
  obtain ⟨A4, c4, rfl, hA4⟩ := hv.2.form
  have HF4 := Lib.hid (HF3.out.up hB4)
  have HB4 := Lib.hid (HB3.out.trans (hB4.mono HB3.out.size))
  have HD4 := Lib.hid (HD3.out.up hB4)
  have HY4 := Lib.hid (bytes_below HY3.out hB4)
  have HZ4 := Lib.hid hA4
  rw [show (.slice A4 smallB.length c4 : Value) = .slice A4 28 c4 from rfl]
  clear hB4 hv hA4 HF3 HB3 HD3 HY3
  go_wp2_with fail
  refine (decode_any w4 _ 28 28 smallB rfl (by decide) (by decide) HY4.out (fun b off e => by injection e with e; injection e with e1; subst e1; exact (HY4.out (by decide)).elim fun b h => by obtain ⟨off, e, hl, _⟩ := h; injection e with e; injection e with e1; omega) small_byt).mono ?_
  rintro e w5 ⟨hB5, h5⟩
  rw [small_dec] at h5
  obtain ⟨vl5, vc5, cvs, rfl, hDI⟩ := h5
  have HF5 := Lib.hid (HF4.out.up hB5)
  have HB5 := Lib.hid (HB4.out.trans (hB5.mono HB4.out.size))
  have HD5 := Lib.hid (HD4.out.up hB5)
  have HY5 := Lib.hid (bytes_below HY4.out hB5)
  have HZ5 := Lib.hid (bytes_below HZ4.out hB5)
  have HE5 := Lib.hid (hDI.at_ (deed_good small_good).2)
  rw [show (Value.agg #[vl5, vc5]) = .agg (arr 2 (deF vl5 vc5)) from rfl]
  obtain ⟨U, hU⟩ : ∃ T, T = deF vl5 vc5 := ⟨_, rfl⟩
  have HO' := Lib.hid (show ∀ q, q < 2 → (U q).oneCell' = true by obtain ⟨A, m, c, A', m', c', e1, e2, _, _⟩ := HE5.out.forms; rw [hU, e1, e2]; exact deF_one rfl rfl)
  rw [← hU]
  have HUU := Lib.hid hU
  clear hU hB5 hDI HF4 HB4 HD4 HY4 HZ4
  go_upto_region 4 with (first
    | (refine wpList_alloc_seg rfl 26 rfl 2 (deF (.slice none 0 0) (.slice none 0 0)) zeroDeed ?_; intro w6 h6 hB6 hs6)
    | (refine wpList_store_all rfl 26 _ _ rfl w5.heap.size 26 2 _ U rfl rfl h6 sizeDeed HO'.out ?_; intro w7 h7 hT7 hs7))
  obtain ⟨g2, hg2⟩ : ∃ g, g = w5.heap.size := ⟨_, rfl⟩
  rw [← hg2] at h6 h7 hT7 ⊢
  have hbw : Below w5.heap.size w5 w7 := hB6.trans (hT7.below (by omega) hB6.size)
  have HG7 := Lib.hid h7
  have HF7 := Lib.hid (HF5.out.up hbw)
  have HB7 := Lib.hid (HB5.out.trans (hbw.mono HB5.out.size))
  have HD7 := Lib.hid (HD5.out.up hbw)
  have HE7 := Lib.hid (HE5.out.up hbw)
  have HY7 := Lib.hid (bytes_below HY5.out hbw)
  have HZ7 := Lib.hid (bytes_below HZ5.out hbw)
  clear h6 hB6 hs6 h7 hT7 hs7 hg2 hbw HF5 HB5 HD5 HE5 HY5 HZ5
  go_wp2_with fail
  obtain ⟨w8, hw8⟩ : ∃ w8, w8 = w7.alloc (.cells #[.int .u8 87, .int .u8 65, .int .u8 82, .int .u8 49, .int .u8 9] 5) := ⟨_, rfl⟩
  have hb8 : Below w7.heap.size w7 w8 := by rw [hw8]; exact (Below.refl _ _).alloc (Nat.le_refl _) _
  have hby8 : BytesAt w8 (some ⟨w7.heap.size, 0, none⟩) [87, 65, 82, 49, 9] := by rw [hw8]; exact (ByteBlk.new w7 [87, 65, 82, 49, 9]).at_
  have hlt8 : w7.heap.size < w8.heap.size := by rw [hw8]; simp
  rw [← hw8]
  have HB8 := Lib.hid (HB7.out.trans (hb8.mono HB7.out.size))
  have HF8 := Lib.hid (HF7.out.up hb8)
  have HG8 := Lib.hid (HG7.out.up hb8)
  have HD8 := Lib.hid (HD7.out.up hb8)
  have HE8 := Lib.hid (HE7.out.up hb8)
  have HY8 := Lib.hid (bytes_below HY7.out hb8)
  have HZ8 := Lib.hid (bytes_below HZ7.out hb8)
  clear hw8 hb8 HB7 HF7 HG7 HD7 HE7 HY7 HZ7
  refine (decode_any w8 _ 5 5 [87, 65, 82, 49, 9] rfl (by decide) (by decide) hby8 (fun b off e => by injection e with e; injection e with e1; omega) nine_byt).mono ?_
  rintro e w9 ⟨hB9, h9⟩
  rw [nine_dec] at h9
  simp only at h9
  subst h9
  have HB9 := Lib.hid (HB8.out.trans (hB9.mono HB8.out.size))
  have HF9 := Lib.hid (HF8.out.up hB9)
  have HG9 := Lib.hid (HG8.out.up hB9)
  have HD9 := Lib.hid (HD8.out.up hB9)
  have HE9 := Lib.hid (HE8.out.up hB9)
  have HY9 := Lib.hid (bytes_below HY8.out hB9)
  have HZ9 := Lib.hid (bytes_below HZ8.out hB9)
  rw [show nilDeed = .agg (arr 2 (deF (.slice none 0 0) (.slice none 0 0))) from rfl]
  obtain ⟨N, hN⟩ : ∃ N, N = deF (.slice none 0 0) (.slice none 0 0) := ⟨_, rfl⟩
  have HON := Lib.hid (show ∀ q, q < 2 → (N q).oneCell' = true by rw [hN]; exact deF_one rfl rfl)
  rw [← hN]
  clear hN hB9 hby8 hlt8 HB8 HF8 HG8 HD8 HE8 HY8 HZ8
  go_upto_region 5 with (first
    | (refine wpList_alloc_seg rfl 26 rfl 2 (deF (.slice none 0 0) (.slice none 0 0)) zeroDeed ?_; intro w10 h10 hB10 hs10)
    | (refine wpList_store_all rfl 26 _ _ rfl w9.heap.size 26 2 _ N rfl rfl h10 sizeDeed HON.out ?_; intro w11 h11 hT11 hs11))
  have hbw : Below w9.heap.size w9 w11 := hB10.trans (hT11.below (by omega) hB10.size)
  have HB := Lib.hid (HB9.out.trans (hbw.mono HB9.out.size))
  have HF := Lib.hid (fb_at (HF9.out.up hbw))
  have HG := Lib.hid (fb_at (HG9.out.up hbw))
  have HD := Lib.hid (HD9.out.up hbw)
  have HE := Lib.hid (HE9.out.up hbw)
  have HY := Lib.hid (bytes_below HY9.out hbw)
  have HZ := Lib.hid (bytes_below HZ9.out hbw)
  clear h10 hB10 hs10 h11 hT11 hs11 hbw HB9 HF9 HG9 HD9 HE9 HY9 HZ9
  go_wp2_with fail
  refine (sameBytes_any w11 _ 28 28 A4 28 c4 smallB smallB rfl rfl HY.out HZ.out small_byt small_byt).mono ?_
  rintro e u ⟨rfl, rfl⟩
  rw [decide_eq_true rfl]
  go_wp2_with (first
    | (refine wpList_load_cells rfl 26 _ rfl g1 0 rfl 2 T _ HF.out Try.underlying26 rfl sizeDeed ?_)
    | (refine wpList_load_cells rfl 26 _ rfl g2 0 rfl 2 U _ HG.out Try.underlying26 rfl sizeDeed ?_))
  go_at_call 22
  rw [HTT.out, HUU.out]
  refine (sameDeed_any w11 _ _ _ _ smallMd (mdOf (toDe smallMd)) HD.out HE.out (by decide) (by decide)).mono ?_
  rintro e w12 ⟨rfl, hB12⟩
  rw [small_same]
  have HB12 := Lib.hid (HB.out.trans (hB12.mono HB.out.size))
  clear hB12
  go_wp2_with fail
  go_ret
  exact ⟨rfl, HB12.out⟩
theorem deedNames_any (w : World) : Calls Try.prog 3 #[] w (RetB w (.bool true)) := by
  go_enter Try.func3, Try.ntmps3
  go_wp2_with fail
  refine (known_any w).mono ?_
  rintro e w1 ⟨rfl, hB1⟩
  have HB1 := Lib.hid hB1
  clear hB1
  go_wp2_with fail
  go_ret
  exact ⟨rfl, HB1.out⟩
end Go.Proofs.Ytbomihdnnidelaa
