/- DeedCut: the law. -/
import Derived.Test.YtbomihdnnidelaaDSi
namespace Go.Proofs.Ytbomihdnnidelaa
open Go.ChangeShapes Go.WideShapes Go.ChangeAt Go.RowKit
open Dee
set_option linter.unusedVariables false
set_option linter.unusedSimpArgs false
set_option maxRecDepth 100000
theorem wrap64_in {x : Int} (h1 : -9223372036854775808 ≤ x) (h2 : x < 9223372036854775808) : wrap64 x = x := by unfold wrap64; omega
theorem bytes_take {w : World} {A : Option Addr} {L : List Int} (h : BytesAt w A L) (k : Nat) : BytesAt w A (L.take k) := fun hp => by
  rw [List.length_take] at hp
  obtain ⟨b, off, e, hl, hc⟩ := h (by omega)
  refine ⟨b, off, e, hl, fun i hi => ?_⟩
  rw [List.length_take] at hi
  rw [hc i (by omega), List.getElem?_take, if_pos (by omega)]
theorem enc_len {d : Md} (h : encD d = 0) : (deW (toDe d)).length ≤ 4194304 := by
  have hw := enc_wrong h
  unfold encD at h
  rw [if_neg (by rw [hw]; decide)] at h
  by_cases hl : 4194304 < (deW (toDe d)).length
  · rw [if_pos hl] at h; exact absurd h (by decide)
  · omega
set_option maxHeartbeats 16000000 in
theorem deedCut_any (w : World) (vl vc : Value) (d : Md) (a x : Int) (A : Option Addr) (n c : Nat) (M : List Int) (hat : DeedAt w.heap.size w vl vc d) (ha : -9223372036854775808 ≤ a ∧ a ≤ 9223372036854775807) (hx : 0 ≤ x ∧ x ≤ 255) (hM : M.length = n) (hc : n ≤ c) (hn : n ≤ 1048576) (hA : BytesAt w A M) (hAl : ∀ b off, A = some ⟨b, off, none⟩ → b < w.heap.size) (hB : Bytes M) (hn1 : d.loops.length ≤ 9223372036854775807) (hn2 : d.claims.length ≤ 9223372036854775807) :
    Calls Try.prog 10 #[.agg (arr 2 (deF vl vc)), .int .i64 a, .int .u8 x, .slice A n c] w (RetB w (.bool true)) := by
  have HD0 := Lib.hid hat
  have HA := Lib.hid ha
  have HX := Lib.hid hx
  have HM := Lib.hid hM
  have HMY := Lib.hid hB
  have HMA := Lib.hid hA
  clear hat ha hx hM hB hA hAl
  obtain ⟨T, hT⟩ : ∃ T, T = deF vl vc := ⟨_, rfl⟩
  have HTT := Lib.hid hT
  rw [← hT]
  clear hT
  go_enter Try.func10, Try.ntmps10
  go_upto_region 1 with (refine wpList_box_seg rfl _ (.tmp 0) rfl 2 T rfl ?_; intro w1 h1 hB1 hs1)
  obtain ⟨gb, hgb⟩ : ∃ gb, gb = w.heap.size := ⟨_, rfl⟩
  rw [← hgb] at h1 ⊢
  have HF1 := Lib.hid h1
  have HB1 := Lib.hid hB1
  have HD1 := Lib.hid (HD0.out.up hB1)
  have HM1 := Lib.hid (bytes_below HMA.out hB1)
  clear h1 hB1 hs1 hgb HD0 HMA
  go_wp2_with fail
  refine (known_any w1).mono ?_
  rintro e w3 ⟨rfl, hB3⟩
  have HF3 := Lib.hid (HF1.out.up hB3)
  have HB3 := Lib.hid (HB1.out.trans (hB3.mono HB1.out.size))
  have HD3 := Lib.hid (HD1.out.up hB3)
  have HM3 := Lib.hid (bytes_below HM1.out hB3)
  clear hB3 HF1 HB1 HD1 HM1
  go_wp2_with (refine wpList_load_all rfl 26 _ rfl gb rfl 26 2 T _ HF3.out Try.underlying26 rfl sizeDeed ?_)
  go_at_call 13
  rw [HTT.out]
  refine (encode_any w3 _ _ d HD3.out).mono ?_
  rintro e w4 ⟨hB4, v, rfl, hv⟩
  rw [← HTT.out]
  have HF4 := Lib.hid (HF3.out.up hB4)
  have HB4 := Lib.hid (HB3.out.trans (hB4.mono HB3.out.size))
  have HD4 := Lib.hid (HD3.out.up hB4)
  have HM4 := Lib.hid (bytes_below HM3.out hB4)
  clear hB4 HF3 HB3 HD3 HM3
  by_cases hz' : ¬ encD d = 0
  · have hz := hz'
    clear hz'
    rw [if_neg hz] at hv
    subst hv
    have tz : (encD d == 0) = false := by rw [beq_eq_false_iff_ne]; exact hz
    clear hz
    go_wp2_with fail
    go_ret
    exact ⟨rfl, HB4.out⟩
  · have hz : encD d = 0 := Classical.byContradiction hz'
    clear hz'
    rw [if_pos hz] at hv
    rw [hz]
    have hlen := enc_len hz
    clear hz
    obtain ⟨hw, ho⟩ := hv
    have HW := Lib.hid hw
    obtain ⟨A4, c4, rfl, hc4, hA4, hAl4⟩ := ho.full
    have hsix := deW_six (toDe d)
    have HLY := Lib.hid (de_codec.bytes _ (deed_good hw).2)
    obtain ⟨L, hL⟩ : ∃ L, L = deW (toDe d) := ⟨_, rfl⟩
    have HLL := Lib.hid hL
    rw [← hL] at hlen hc4 hA4 hsix HLY ⊢
    have HA4 := Lib.hid hA4
    have HAL4 := Lib.hid hAl4
    obtain ⟨l, hl⟩ : ∃ l, l = L.length := ⟨_, rfl⟩
    have HL := Lib.hid hl
    rw [← hl] at hlen hc4 hsix ⊢
    clear hw ho hA4 hAl4 hL hl
    have t6 : decide ((l : Int) < 6) = false := decide_eq_false (by omega)
    have tn0 : (l : Int) ≠ 0 := by omega
    have tn1 : ((l : Int) == 0) = false := by rw [beq_eq_false_iff_ne]; exact tn0
    obtain ⟨k, hk, hka⟩ := place_cut a l (by omega)
    have HK1 := Lib.hid (show a.tmod l < l ∧ -(l : Int) < a.tmod l from ⟨Int.tmod_lt_of_pos a (by omega), Int.lt_tmod_of_pos a (by omega)⟩)
    go_upto_region 9 with fail
    have hwk : wrap64 (a.tmod l + l) = a.tmod l + l := wrap64_in (by have := HK1.out; omega) (by have := HK1.out; omega)
    rw [hwk, hka]
    have hk' : (k : Int) < l := by omega
    have hkc : k ≤ c4 := by omega
    have hkc' : (k : Int) ≤ c4 := by omega
    clear hwk hka HK1 t6 tn0 tn1
    go_wp2_with fail
    have HT4 := Lib.hid (bytes_take HA4.out k)
    refine (decode_any w4 A4 k c4 (L.take k) (by rw [List.length_take, ← HL.out]; omega) hkc (by omega) HT4.out HAL4.out (fun y hy => HLY.out y (List.mem_of_mem_take hy))).mono ?_
    rintro e w5 ⟨hB5, h5⟩
    rw [HLL.out, cut_dec HW.out (by rw [← HLL.out, ← HL.out]; exact hk) (by rw [← HLL.out, ← HL.out]; exact hlen)] at h5
    simp only at h5
    subst h5
    have HF5 := Lib.hid (HF4.out.up hB5)
    have HB5 := Lib.hid (HB4.out.trans (hB5.mono HB4.out.size))
    have HD5 := Lib.hid (HD4.out.up hB5)
    have HM5 := Lib.hid (bytes_below HM4.out hB5)
    have HA5 := Lib.hid (bytes_below HA4.out hB5)
    rw [show nilDeed = .agg (arr 2 (deF (.slice none 0 0) (.slice none 0 0))) from rfl]
    obtain ⟨N, hN⟩ : ∃ N, N = deF (.slice none 0 0) (.slice none 0 0) := ⟨_, rfl⟩
    have HON := Lib.hid (show ∀ q, q < 2 → (N q).oneCell' = true by rw [hN]; exact deF_one rfl rfl)
    rw [← hN]
    clear hN hB5 HF4 HB4 HD4 HM4 HA4 HT4 HAL4
    go_upto_region 10 with (first
      | (refine wpList_alloc_seg rfl 26 rfl 2 (deF (.slice none 0 0) (.slice none 0 0)) zeroDeed ?_; intro w6 h6 hB6 hs6)
      | (refine wpList_store_all rfl 26 _ _ rfl w5.heap.size 26 2 _ N rfl rfl h6 sizeDeed HON.out ?_; intro w7 h7 hT7 hs7))
    obtain ⟨gn, hgn⟩ : ∃ g, g = w5.heap.size := ⟨_, rfl⟩
    rw [← hgn] at h6 h7 hT7 ⊢
    have hbw : Below w5.heap.size w5 w7 := hB6.trans (hT7.below (by omega) hB6.size)
    have HF7 := Lib.hid (HF5.out.up hbw)
    have HB7 := Lib.hid (HB5.out.trans (hbw.mono HB5.out.size))
    have HD7 := Lib.hid (HD5.out.up hbw)
    have HM7 := Lib.hid (bytes_below HM5.out hbw)
    have HA7 := Lib.hid (bytes_below HA5.out hbw)
    have tk : ((k : Int) == k) = true := by simp
    clear h6 hB6 hs6 h7 hT7 hs7 hgn hbw HF5 HB5 HD5 HM5 HA5
    go_upto_region 12 with fail
    obtain ⟨b12, hb12⟩ : ∃ b, b = (x != 0) := ⟨_, rfl⟩
    have HB12 := Lib.hid hb12
    have tb : (x != 0) = b12 := hb12.symm
    clear hb12
    go_upto_if 60 with (fail)
    go_cut [15, 16, 17, 18, 61, 62, 63, 64, 65, 66, 67, 68, 69, 70, 71, 72, 73, 74, 75, 76, 77, 78, 79, 80, 81, 82, 83, 84] (fun _ _ _ _ _ _ _ _ _ _ _ _ _ _ _ _ _ _ _ _ _ _ _ _ _ _ _ _ wx => Below w.heap.size w wx ∧ BytesAt wx A M ∧ BytesAt wx A4 L)
    case first =>
      cases b12
      · go_wp2_with fail
        go_meet
        case rel => exact ⟨HB7.out, HM7.out, HA7.out⟩
      · have HX0 := Lib.hid (show x ≠ 0 from fun e => by have := HB12.out; rw [e] at this; exact absurd this (by decide))
        go_wp2_with fail
        refine (copyBytes_own w7 A4 l c4 L HL.out.symm (by omega) HA7.out).mono ?_
        rintro e w8 ⟨v8, rfl, hown, hB8⟩
        have HF8 := Lib.hid (HF7.out.up hB8)
        have HB8 := Lib.hid (HB7.out.trans (hB8.mono HB7.out.size))
        have HD8 := Lib.hid (HD7.out.up hB8)
        have HM8 := Lib.hid (bytes_below HM7.out hB8)
        have HA8 := Lib.hid (bytes_below HA7.out hB8)
        obtain ⟨g, c8, rfl, hge, hc8, hg8, hcell, hfr, hput⟩ := hown.put k (by rw [← HL.out]; exact hk)
        rw [← HL.out] at hc8 ⊢
        obtain ⟨y, hy⟩ : ∃ y, y = L[k]?.getD 0 := ⟨_, rfl⟩
        rw [← hy] at hcell
        have HYB := Lib.hid (show IsB y by
          rw [hy, List.getElem?_eq_getElem (by rw [← HL.out]; exact hk)]
          exact HLY.out _ (List.getElem_mem _))
        have HYY := Lib.hid hy
        have HG := Lib.hid (show w7.heap.size ≤ g ∧ g < w8.heap.size from ⟨hge, hg8⟩)
        have HPUT := Lib.hid hput
        have HBL8 := Lib.hid hB8
        have hgb7 := HF7.out.lt
        clear hy hput hge hg8 hown hB8 HF8 HB8 HD8 HM8 HA8
        go_upto_region 15 with fail
        obtain ⟨yy, hyy⟩ : ∃ yy, yy = (y + x) % 256 := ⟨_, rfl⟩
        rw [← hyy]
        obtain ⟨w9, hw9⟩ : ∃ w9, w9 = w8.setCell ⟨g, k, none⟩ (.int .u8 yy) := ⟨_, rfl⟩
        have hb9 : Below w7.heap.size w7 w9 := by rw [hw9]; exact HBL8.out.setCell HG.out.1 _
        have hby9 : BytesAt w9 (some ⟨g, 0, none⟩) (L.set k yy) := by rw [hw9]; exact HPUT.out yy
        have hgl9 : g < w9.heap.size := by rw [hw9]; simpa [World.setCell] using HG.out.2
        rw [← hw9]
        have HF9 := Lib.hid (HF7.out.up hb9)
        have HB9 := Lib.hid (HB7.out.trans (hb9.mono HB7.out.size))
        have HD9 := Lib.hid (HD7.out.up hb9)
        have HM9 := Lib.hid (bytes_below HM7.out hb9)
        have HA9 := Lib.hid (bytes_below HA7.out hb9)
        have HYY9 := Lib.hid (show IsB yy from ⟨by omega, by omega⟩)
        have HSB := Lib.hid (set_byt (k := k) HLY.out HYY9.out)
        have HNE := Lib.hid (show L.set k yy ≠ deW (toDe d) by
          rw [← HLL.out]
          refine set_ne (by rw [← HL.out]; exact hk) ?_
          rw [← HYY.out, hyy]
          have h1 := HYB.out
          have h2 := HX.out
          have h3 := HX0.out
          unfold IsB at h1
          omega)
        have HLS := Lib.hid (show (L.set k yy).length = l by rw [List.length_set]; exact HL.out.symm)
        clear hyy hw9 hb9 hgb7 HF7 HB7 HD7 HM7 HA7 HBL8 HG HPUT HYY HYB HX0 hcell hfr HYY9
        obtain ⟨K, hK⟩ : ∃ K, K = L.set k yy := ⟨_, rfl⟩
        rw [← hK] at hby9 HSB HNE HLS
        clear hK
        go_wp2_with fail
        refine (decode_any w9 (some ⟨g, 0, none⟩) l c8 K HLS.out hc8 (by omega) hby9 (fun b off e => by injection e with e; injection e with e1; omega) HSB.out).mono ?_
        rintro e w10 ⟨hB10, h10⟩
        have HF10 := Lib.hid (fb_at (HF9.out.up hB10))
        have HB10 := Lib.hid (HB9.out.trans (hB10.mono HB9.out.size))
        have HD10 := Lib.hid (HD9.out.up hB10)
        have HM10 := Lib.hid (bytes_below HM9.out hB10)
        have HA10 := Lib.hid (bytes_below HA9.out hB10)
        have HF10' := Lib.hid (HF9.out.up hB10)
        clear hB10 hby9 hgl9 HF9 HB9 HD9 HM9 HA9
        cases hd : decD K with
        | error z =>
          obtain ⟨za, ze⟩ := z
          rw [hd] at h10
          simp only at h10
          subst h10
          have hnz := decD_nz hd
          have tz : (ze == 0) = false := by rw [beq_eq_false_iff_ne]; exact hnz
          rw [show nilDeed = .agg (arr 2 (deF (.slice none 0 0) (.slice none 0 0))) from rfl]
          obtain ⟨N', hN'⟩ : ∃ N, N = deF (.slice none 0 0) (.slice none 0 0) := ⟨_, rfl⟩
          have HON' := Lib.hid (show ∀ q, q < 2 → (N' q).oneCell' = true by rw [hN']; exact deF_one rfl rfl)
          rw [← hN']
          clear hN' hnz hd
          go_upto_region 16 with (first
            | (refine wpList_alloc_seg rfl 26 rfl 2 (deF (.slice none 0 0) (.slice none 0 0)) zeroDeed ?_; intro w11 h11 hB11 hs11)
            | (refine wpList_store_all rfl 26 _ _ rfl w10.heap.size 26 2 _ N' rfl rfl h11 sizeDeed HON'.out ?_; intro w12 h12 hT12 hs12))
          have hbw : Below w10.heap.size w10 w12 := hB11.trans (hT12.below (Nat.le_refl _) hB11.size)
          have HB12' := Lib.hid (HB10.out.trans (hbw.mono HB10.out.size))
          have HM12 := Lib.hid (bytes_below HM10.out hbw)
          have HA12 := Lib.hid (bytes_below HA10.out hbw)
          clear h11 hB11 hs11 h12 hT12 hs12 hbw
          go_wp2_with fail
          go_meet
          case rel => exact ⟨HB12'.out, HM12.out, HA12.out⟩
        | ok u =>
          rw [hd] at h10
          obtain ⟨vl5, vc5, cvs, rfl, hDI⟩ := h10
          have HNS := Lib.hid (turned_dec HNE.out HSB.out hd)
          have HE10 := Lib.hid (hDI.at_ (decD_ok HSB.out hd).2.1)
          rw [show (Value.agg #[vl5, vc5]) = .agg (arr 2 (deF vl5 vc5)) from rfl]
          obtain ⟨U, hU⟩ : ∃ T, T = deF vl5 vc5 := ⟨_, rfl⟩
          have HO' := Lib.hid (show ∀ q, q < 2 → (U q).oneCell' = true by obtain ⟨A, m, c, A', m', c', e1, e2, _, _⟩ := HE10.out.forms; rw [hU, e1, e2]; exact deF_one rfl rfl)
          rw [← hU]
          have HUU := Lib.hid hU
          clear hU hDI hd
          go_upto_region 16 with (first
            | (refine wpList_alloc_seg rfl 26 rfl 2 (deF (.slice none 0 0) (.slice none 0 0)) zeroDeed ?_; intro w11 h11 hB11 hs11)
            | (refine wpList_store_all rfl 26 _ _ rfl w10.heap.size 26 2 _ U rfl rfl h11 sizeDeed HO'.out ?_; intro w12 h12 hT12 hs12))
          obtain ⟨gu, hgu⟩ : ∃ g, g = w10.heap.size := ⟨_, rfl⟩
          rw [← hgu] at h11 h12 hT12 ⊢
          have hbw : Below w10.heap.size w10 w12 := hB11.trans (hT12.below (by omega) hB11.size)
          have HB12' := Lib.hid (HB10.out.trans (hbw.mono HB10.out.size))
          have HM12 := Lib.hid (bytes_below HM10.out hbw)
          have HA12 := Lib.hid (bytes_below HA10.out hbw)
          have HF12 := Lib.hid (fb_at (HF10'.out.up hbw))
          have HG12 := Lib.hid (fb_at h12)
          have HD12 := Lib.hid (HD10.out.up hbw)
          have HE12 := Lib.hid (HE10.out.up hbw)
          clear h11 hB11 hs11 h12 hT12 hs12 hgu hbw HF10 HF10' HB10 HM10 HA10 HD10 HE10
          go_wp2_with (first
            | (refine wpList_load_cells rfl 26 _ rfl gb 0 rfl 2 T _ HF12.out Try.underlying26 rfl sizeDeed ?_)
            | (refine wpList_load_cells rfl 26 _ rfl gu 0 rfl 2 U _ HG12.out Try.underlying26 rfl sizeDeed ?_))
          go_at_call 22
          rw [HTT.out, HUU.out]
          refine (sameDeed_any w12 _ _ _ _ d (mdOf u) HD12.out HE12.out hn1 hn2).mono ?_
          rintro e w13 ⟨rfl, hB13⟩
          rw [HNS.out, ← HTT.out]
          have HB13 := Lib.hid (HB12'.out.trans (hB13.mono HB12'.out.size))
          have HM13 := Lib.hid (bytes_below HM12.out hB13)
          have HA13 := Lib.hid (bytes_below HA12.out hB13)
          clear hB13
          go_wp2_with fail
          go_meet
          case rel => exact ⟨HB13.out, HM13.out, HA13.out⟩
    case rest =>
      obtain ⟨hB, hM, hA⟩ := hcut
      have HB := Lib.hid hB
      have HM := Lib.hid HM.out
      have HMA := Lib.hid hM
      have HLA := Lib.hid hA
      clear hB hM hA HF7 HB7 HD7 HM7 HA7 tk tb HB12
      by_cases hn0 : n = 0
      · subst hn0
        go_wp2_with fail
        go_ret
        exact ⟨rfl, HB.out⟩
      · have tn : ((n : Int) == 0) = false := by rw [beq_eq_false_iff_ne]; omega
        have HNN := Lib.hid (show M ≠ [] from fun e => hn0 (by rw [← HM.out, e]; rfl))
        clear hn0
        go_wp2_with fail
        refine (copyBytes_own _ A4 l c4 L HL.out.symm (by omega) HLA.out).mono ?_
        rintro e w10 ⟨v10, rfl, hown, hB10⟩
        have HOWN := Lib.hid hown
        have HB10 := Lib.hid (HB.out.trans (hB10.mono HB.out.size))
        have HM10 := Lib.hid (bytes_below HMA.out hB10)
        have HSZ := Lib.hid hB10.size
        obtain ⟨A10, c10, rfl, hc10, _, _⟩ := hown.full
        have HWS := Lib.hid HB.out.size
        clear hB10 hown HB HMA HLA
        go_wp2_with (at_builtin; (refine append_bytes Try.underlying28 byte_info _ rfl (.tmp 90) (.tmp 91) rfl _ _ L rfl HOWN.out A n c M rfl HM.out HM10.out (by rw [← HL.out]; omega) HSZ.out ?_; intro v11 w11 hown11 hB11; obtain ⟨A11, c11, rfl, hc11, hA11, hAl11⟩ := hown11.full))
        have HB11 := Lib.hid (HB10.out.trans (hB11.mono HWS.out))
        have hql : (L ++ M).length = l + n := by rw [List.length_append, ← HL.out, HM.out]
        have HC11 := Lib.hid hc11
        have HQL := Lib.hid hql
        have HBL := Lib.hid (show Bytes (L ++ M) from fun y hy => by
          rcases List.mem_append.1 hy with hy | hy
          · exact HLY.out y hy
          · exact HMY.out y hy)
        have HMD := Lib.hid (show decD (L ++ M) = if 4194304 < l + n then .error (0, 2) else .error (l, 110) by rw [HL.out, ← HM.out, HLL.out]; exact more_dec HW.out HNN.out)
        clear hB11 hql hc11 HOWN HB10 HM10 HSZ HWS hown11
        refine (decode_any w11 A11 _ c11 (L ++ M) (by simp) (by have := HC11.out; simpa using this) (by have := HQL.out; simp at this; omega) hA11 hAl11 HBL.out).mono ?_
        rintro e w12 ⟨hB12, h12⟩
        have HB12 := Lib.hid (HB11.out.trans (hB12.mono HB11.out.size))
        rw [HMD.out] at h12
        clear hB12 HB11 hA11 hAl11
        by_cases hbig : 4194304 < l + n
        · rw [if_pos hbig] at h12
          simp only at h12
          subst h12
          have tl : decide ((4194304 : Int) < (l : Int) + (n : Int)) = true := decide_eq_true (by omega)
          clear hbig
          go_wp2_with fail
          go_ret
          exact ⟨rfl, HB12.out⟩
        · rw [if_neg hbig] at h12
          simp only at h12
          subst h12
          have tl : decide ((4194304 : Int) < (l : Int) + (n : Int)) = false := decide_eq_false (by omega)
          have tll : ((l : Int) == l) = true := by simp
          clear hbig
          go_wp2_with fail
          go_ret
          exact ⟨rfl, HB12.out⟩
end Go.Proofs.Ytbomihdnnidelaa
