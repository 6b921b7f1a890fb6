/- Package pack: what a section says is put into a container. -/
import Derived.Test.YtkfcfoidaalnlaaPkO
namespace Go.Proofs.Ytkfcfoidaalnlaa.Pak
open Go.ChangeShapes Go.WideShapes Go.ChangeAt Go.RowKit
set_option linter.unusedVariables false
set_option linter.unusedSimpArgs false
set_option maxRecDepth 100000
theorem PkB.touch {W W' : World} {gk base g : Nat} {k : Pk} {vd vt vc : Value} {t : TypeId} {cs : Array Value} (h : PkB W gk base k vd vt vc) (ht : Touch g W W') (hb : Blk W g t cs) (h1 : 5 ≠ t) (h2 : 60 ≠ t) (h3 : 25 ≠ t) : PkB W' gk base k vd vt vc :=
  ⟨h.blk.touch ht (Blk.ne_ h.blk hb h3), ownB_touch h.data ht hb h1, ownT_touch h.tabs ht hb h2, ownB_touch h.code ht hb h1, h.dc⟩
theorem IntoRes.form {n gk base : Nat} {r : Except Fl Pk} {e : Ending} {w : World} (h : IntoRes n gk base r e w) : ∃ fa fe, e = .returned (.agg (arr 2 (ftF fa fe))) := by
  unfold IntoRes at h
  cases r with
  | error x => obtain ⟨lf, er⟩ := x; exact ⟨_, _, h.1⟩
  | ok k => exact ⟨_, _, h.1⟩
theorem IntoRes.touch {n gk base g : Nat} {r : Except Fl Pk} {e : Ending} {w w' : World} {t : TypeId} {cs : Array Value} (h : IntoRes n gk base r e w) (ht : Touch g w w') (hb : Blk w g t cs) (h1 : 5 ≠ t) (h2 : 60 ≠ t) (h3 : 25 ≠ t) : IntoRes n gk base r e w' := by
  unfold IntoRes at h ⊢
  cases r with
  | error x =>
    obtain ⟨lf, er⟩ := x
    obtain ⟨he, f, hf⟩ := h
    exact ⟨he, f, hf.touch ht (Blk.ne_ hf hb h3)⟩
  | ok k =>
    obtain ⟨he, vd, vt, vc, hk⟩ := h
    exact ⟨he, vd, vt, vc, hk.touch ht hb h1 h2 h3⟩
set_option maxHeartbeats 8000000 in
theorem into_any (w : World) (gk base n b off left m : Nat) (k : Pk) (vd vt vc : Value) (kd at_ : Int) (L : List Int) (hk : PkB w gk base k vd vt vc) (hL : L.length = m) (hkd : 1 ≤ kd ∧ kd ≤ 4) (hun : uncounted kd m = 0) (hY : Bytes L) (hA : BytesAt w (some ⟨b, off, none⟩) L) (hne : b ≠ gk) (hlt : b < w.heap.size) (hat : at_ = (n - left : Nat)) (hleft : m ≤ left ∧ left ≤ n) (hn : n ≤ 1048576) (hbase : base ≤ w.heap.size) :
    Calls Try.prog 49 #[.agg (arr 3 (secF ⟨kd, at_, some ⟨b, off, none⟩, m, m, L⟩)), .pointer (some ⟨gk, 0, none⟩)] w fun e w' => Touch gk w w' ∧ IntoRes n gk base (into k kd L left) e w' := by
  obtain ⟨X, hX⟩ : ∃ X, X = secF ⟨kd, at_, some ⟨b, off, none⟩, m, m, L⟩ := ⟨_, rfl⟩
  rw [← hX]
  have HX := Lib.hid hX
  have HK := Lib.hid hk
  have HL := Lib.hid hL
  have HY := Lib.hid hY
  have HA := Lib.hid hA
  have HAT := Lib.hid hat
  have HLF := Lib.hid hleft
  have HBS := Lib.hid hbase
  have HUN := Lib.hid hun
  have HSl := Lib.hid (show Sl w (some ⟨b, off, none⟩) m m L from ⟨Lib.hid hL, Nat.le_refl _, hA, fun b' off' e => by injection e with e; injection e with e1; omega⟩)
  have HLT := Lib.hid hlt
  have HM := Lib.hid (show m ≤ 1048576 by omega)
  clear hX hk hL hY hA hat hleft hbase hun hlt
  obtain ⟨r, hr⟩ : ∃ r, r = into k kd L left := ⟨_, rfl⟩
  rw [← hr]
  have HR := Lib.hid hr
  clear hr
  go_enter Try.func49, Try.ntmps49
  go_upto_region 1 with (first
    | (refine wpList_box_seg rfl _ (.tmp 0) rfl 3 X rfl ?_; intro w1 h1 hB1 hs1)
    | (refine wpList_alloc_seg rfl 67 rfl 2 (ftF 0 0) zeroFt ?_; intro w2 h2 hB2 hs2))
  obtain ⟨gb, hgb⟩ : ∃ gb, gb = w.heap.size := ⟨_, rfl⟩
  obtain ⟨gf, hgf⟩ : ∃ gf, gf = w1.heap.size := ⟨_, rfl⟩
  rw [← hgb] at h1 ⊢
  rw [← hgf] at h2 ⊢
  have hb2 : Below w.heap.size w w2 := hB1.trans (hB2.mono hB1.size)
  have HB2 := Lib.hid hb2
  have HBX := Lib.hid (h1.up hB2)
  have HFT := Lib.hid h2
  have HK2 := Lib.hid (HK.out.up hb2)
  have HNE := Lib.hid (show gk ≠ gb ∧ gk ≠ gf ∧ w.heap.size ≤ gf by have := HK.out.blk.lt; exact ⟨by omega, by omega, by omega⟩)
  have x0 : w2.cell? ⟨gb, 0, none⟩ = some (.int .i64 kd) := by rw [HBX.out.cell 0 (by decide), HX.out]; rfl
  have x2 : w2.cell? ⟨gb, 2, none⟩ = some (.slice (some ⟨b, off, none⟩) m m) := by rw [HBX.out.cell 2 (by decide), HX.out]; rfl
  clear h1 hB1 hs1 h2 hB2 hs2 hgb hgf hb2
  rcases (show kd = 1 ∨ kd = 2 ∨ kd = 3 ∨ kd = 4 by omega) with rfl | rfl | rfl | rfl
  · have HM4 := Lib.hid (show m = 4 by
      have h5 := HUN.out
      unfold uncounted at h5
      by_cases h6 : (m : Int) = 0 ∨ ((1 : Int) = 1 ∧ (m : Int) ≠ 4) ∨ ((1 : Int) = 2 ∧ (m : Int) % 2 ≠ 0)
      · rw [if_pos h6] at h5; exact absurd h5 (by decide)
      · omega)
    obtain rfl : m = 4 := HM4.out
    have HCT := Lib.hid (lensM_any w2 gk base n b off left k vd vt vc 1 at_ L HK2.out HL.out HY.out (HA.out.below HB2.out) hne HAT.out)
    go_wp2_with (first
      | (refine wpList_load_all rfl 77 _ rfl gb rfl 77 3 X _ HBX.out Try.underlying77 rfl sizeSec ?_)
      | (go_at_call 57; rw [HX.out]; refine (HCT.out).mono ?_; rintro e w3 ⟨hT3, h3⟩; obtain ⟨fa, fe, rfl⟩ := h3.form; rw [← HX.out])
      | (refine wpList_store_all rfl 67 _ _ rfl gf 67 2 _ (ftF fa fe) rfl rfl (HFT.out.touch hT3 (fun e => HNE.out.2.1 e.symm)) sizeFt (ftF_one _ _) ?_; intro w7 h7 hT7 hs7))
    refine bodyPost_ret (result_seg rfl _ _ gf _ 2 _ _ rfl h7 Try.underlying67 rfl sizeFt) rfl ?_
    have hT23 := (Touch.of_below (g := gk) HB2.out).trans hT3
    refine ⟨touch_then hT23 (hT7.below HNE.out.2.2 hT23.size), ?_⟩
    rw [HR.out]
    exact h3.touch hT7 (HFT.out.touch hT3 (fun e => HNE.out.2.1 e.symm)) (by decide) (by decide) (by decide)
  · have HM4 := Lib.hid (show ∃ q, m = 2 * q by
      have h5 := HUN.out
      unfold uncounted at h5
      by_cases h6 : (m : Int) = 0 ∨ ((2 : Int) = 1 ∧ (m : Int) ≠ 4) ∨ ((2 : Int) = 2 ∧ (m : Int) % 2 ≠ 0)
      · rw [if_pos h6] at h5; exact absurd h5 (by decide)
      · exact ⟨m / 2, by omega⟩)
    obtain ⟨q, rfl⟩ := HM4.out
    have HCT := Lib.hid (tablesM_any w2 gk base n b off left q k vd vt vc 2 at_ L HK2.out HL.out (by have := HM.out; omega) HY.out (HA.out.below HB2.out) hne (Nat.lt_of_lt_of_le HLT.out HB2.out.size) HAT.out HLF.out hn (Nat.le_trans HBS.out HB2.out.size))
    go_wp2_with (first
      | (refine wpList_load_all rfl 77 _ rfl gb rfl 77 3 X _ HBX.out Try.underlying77 rfl sizeSec ?_)
      | (go_at_call 58; rw [HX.out]; refine (HCT.out).mono ?_; rintro e w3 ⟨hT3, h3⟩; obtain ⟨fa, fe, rfl⟩ := h3.form; rw [← HX.out])
      | (refine wpList_store_all rfl 67 _ _ rfl gf 67 2 _ (ftF fa fe) rfl rfl (HFT.out.touch hT3 (fun e => HNE.out.2.1 e.symm)) sizeFt (ftF_one _ _) ?_; intro w7 h7 hT7 hs7))
    refine bodyPost_ret (result_seg rfl _ _ gf _ 2 _ _ rfl h7 Try.underlying67 rfl sizeFt) rfl ?_
    have hT23 := (Touch.of_below (g := gk) HB2.out).trans hT3
    refine ⟨touch_then hT23 (hT7.below HNE.out.2.2 hT23.size), ?_⟩
    rw [HR.out]
    exact h3.touch hT7 (HFT.out.touch hT3 (fun e => HNE.out.2.1 e.symm)) (by decide) (by decide) (by decide)
  · have c0 : w2.cell? ⟨gk, 2, none⟩ = some (pkF k.lo k.hi vd vt vc 2) := HK2.out.blk.cell 2 (by decide)
    have z0 := HK2.out.blk.frozen 2
    go_upto_region 10 with (go_at_call 59; refine (copied_any w2 _ m m L (HSl.out.up HB2.out) (by have := HM.out; omega)).mono ?_; rintro e w3 ⟨v3, rfl, hO3, hB3⟩; obtain ⟨A3, n3, c3, rfl, -⟩ := own_full hO3; have q0 : w3.cell? ⟨gk, 2, none⟩ = some (pkF k.lo k.hi vd vt vc 2) := (HK2.out.blk.up hB3).cell 2 (by decide); have f0 : w3.frozen? ⟨gk, 2, none⟩ = false := (HK2.out.blk.up hB3).frozen 2)
    obtain ⟨w4, hw4⟩ : ∃ u, u = w3.setCell ⟨gk, 2, none⟩ (.slice A3 n3 c3) := ⟨_, rfl⟩
    have ht4 : Touch gk w3 w4 := by rw [hw4]; exact Touch.set_ w3 2 _
    have hk3 := HK2.out.up hB3
    have hk4 : PkB w4 gk base { k with data := L } (.slice A3 n3 c3) vt vc := by
      refine ⟨?_, ?_, ?_, ?_, fun b hb e => by have h1 := (ownB_lt hO3 hb).1; have h2 := (ownB_lt HK2.out.code e).2; omega⟩
      · rw [hw4]
        refine (hk3.blk.set_ 2 _).congr fun p hp => ?_
        rcases (show p = 0 ∨ p = 1 ∨ p = 2 ∨ p = 3 ∨ p = 4 by omega) with rfl | rfl | rfl | rfl | rfl <;> rfl
      · exact ownB_touch (OwnB_base hO3 (Nat.le_trans HBS.out HB2.out.size)) ht4 hk3.blk (by decide)
      · exact ownT_touch hk3.tabs ht4 hk3.blk (by decide)
      · exact ownB_touch hk3.code ht4 hk3.blk (by decide)
    have hT24 : Touch gk w w4 := ((Touch.of_below (g := gk) HB2.out).trans (Touch.of_below hB3)).trans ht4
    have HK4 := Lib.hid hk4
    have HF4 := Lib.hid ((HFT.out.up hB3).touch ht4 (fun e => HNE.out.2.1 e.symm))
    have HT24 := Lib.hid hT24
    rw [← hw4]
    clear hw4 ht4 hk3 hk4 hT24 hO3 hB3 q0 f0 c0 z0
    go_wp2_with (refine wpList_store_all rfl 67 _ _ rfl gf 67 2 _ (ftF 0 0) rfl rfl HF4.out sizeFt (ftF_one _ _) ?_; intro w7 h7 hT7 hs7)
    refine bodyPost_ret (result_seg rfl _ _ gf _ 2 _ _ rfl h7 Try.underlying67 rfl sizeFt) rfl ?_
    refine ⟨touch_then HT24.out (hT7.below HNE.out.2.2 HT24.out.size), ?_⟩
    rw [HR.out]
    exact ⟨rfl, _, _, _, HK4.out.touch hT7 HF4.out (by decide) (by decide) (by decide)⟩
  · have c0 : w2.cell? ⟨gk, 4, none⟩ = some (pkF k.lo k.hi vd vt vc 4) := HK2.out.blk.cell 4 (by decide)
    have z0 := HK2.out.blk.frozen 4
    go_upto_region 10 with (go_at_call 59; refine (copied_any w2 _ m m L (HSl.out.up HB2.out) (by have := HM.out; omega)).mono ?_; rintro e w3 ⟨v3, rfl, hO3, hB3⟩; obtain ⟨A3, n3, c3, rfl, -⟩ := own_full hO3; have q0 : w3.cell? ⟨gk, 4, none⟩ = some (pkF k.lo k.hi vd vt vc 4) := (HK2.out.blk.up hB3).cell 4 (by decide); have f0 : w3.frozen? ⟨gk, 4, none⟩ = false := (HK2.out.blk.up hB3).frozen 4)
    obtain ⟨w4, hw4⟩ : ∃ u, u = w3.setCell ⟨gk, 4, none⟩ (.slice A3 n3 c3) := ⟨_, rfl⟩
    have ht4 : Touch gk w3 w4 := by rw [hw4]; exact Touch.set_ w3 4 _
    have hk3 := HK2.out.up hB3
    have hk4 : PkB w4 gk base { k with code := L } vd vt (.slice A3 n3 c3) := by
      refine ⟨?_, ?_, ?_, ?_, fun b hb e => by have h1 := (ownB_lt hO3 e).1; have h2 := (ownB_lt HK2.out.data hb).2; omega⟩
      · rw [hw4]
        refine (hk3.blk.set_ 4 _).congr fun p hp => ?_
        rcases (show p = 0 ∨ p = 1 ∨ p = 2 ∨ p = 3 ∨ p = 4 by omega) with rfl | rfl | rfl | rfl | rfl <;> rfl
      · exact ownB_touch hk3.data ht4 hk3.blk (by decide)
      · exact ownT_touch hk3.tabs ht4 hk3.blk (by decide)
      · exact ownB_touch (OwnB_base hO3 (Nat.le_trans HBS.out HB2.out.size)) ht4 hk3.blk (by decide)
    have hT24 : Touch gk w w4 := ((Touch.of_below (g := gk) HB2.out).trans (Touch.of_below hB3)).trans ht4
    have HK4 := Lib.hid hk4
    have HF4 := Lib.hid ((HFT.out.up hB3).touch ht4 (fun e => HNE.out.2.1 e.symm))
    have HT24 := Lib.hid hT24
    rw [← hw4]
    clear hw4 ht4 hk3 hk4 hT24 hO3 hB3 q0 f0 c0 z0
    go_wp2_with (refine wpList_store_all rfl 67 _ _ rfl gf 67 2 _ (ftF 0 0) rfl rfl HF4.out sizeFt (ftF_one _ _) ?_; intro w7 h7 hT7 hs7)
    refine bodyPost_ret (result_seg rfl _ _ gf _ 2 _ _ rfl h7 Try.underlying67 rfl sizeFt) rfl ?_
    refine ⟨touch_then HT24.out (hT7.below HNE.out.2.2 HT24.out.size), ?_⟩
    rw [HR.out]
    exact ⟨rfl, _, _, _, HK4.out.touch hT7 HF4.out (by decide) (by decide) (by decide)⟩
end Go.Proofs.Ytkfcfoidaalnlaa.Pak
