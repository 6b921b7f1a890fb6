/- Package pack: PackFaithful's walk: bytes that are read are written again; instructions too. Laid by wip/tools/mkpkpf.py. -/
import Derived.Test.YtlodoinmippebaaDoorPkPe
namespace Go.Proofs.YtlodoinmippebaaDoor.Pak
open Go.ChangeShapes Go.WideShapes Go.ChangeAt Go.RowKit
open Cod
set_option linter.unusedVariables false
set_option linter.unusedSimpArgs false
set_option maxRecDepth 100000
theorem samePgNone_any (w : World) : Calls Tryd.prog 17 #[.agg #[.int .i64 0, .int .i64 0, .slice none 0 0, .slice none 0 0, .slice none 0 0], .agg #[.int .i64 0, .int .i64 0, .slice none 0 0, .slice none 0 0, .slice none 0 0]] w (RetB w (.bool true)) :=
  sameProgram_any w Pg.none Pg.none _ _ _ _ _ _ (pgNone_at w) (pgNone_at w) Bytes.nil Bytes.nil (by simp [Pg.none]) (by simp [Pg.none]) (by simp [Pg.none])
theorem small_read {k : Pk} (h : encE k = 0) (hd : Bytes k.data) (hc : Bytes k.code) : Small k := by
  obtain ⟨h1, h2⟩ := encE_zero h
  obtain ⟨z0, z1, z2, z3, z4, z5⟩ := sizes_zero h1
  have := code_len h2
  exact ⟨by omega, by omega, by omega, hd, hc⟩
theorem smallG_prog {k : Pk} (hs : Small k) (h : (progG k).1.2 = 0) : SmallG (progG k).2 := by
  obtain ⟨-, -, -, -, -, -, hg, hl⟩ := faithful (fun x hx => hs.bc x hx) h
  obtain ⟨-, -, e3, e4⟩ := prog_same h
  exact ⟨by rw [e3]; exact hs.data, by omega, by rw [e4]; exact hs.tabs, by rw [e3]; exact hs.bd, fun i hi => (hg i hi).rng⟩
set_option maxHeartbeats 8000000 in
theorem packFaithful_any (w : World) (A : Option Addr) (n c : Nat) (L : List Int) (hS : Sl w A n c L) (hY : Bytes L) (hn : n ≤ 140737488355328) (ht : Tabs w) :
    Calls Tryd.prog 5 #[.slice A n c] w (RetB w (.bool true)) := by
  have HS := Lib.hid hS
  have HY := Lib.hid hY
  have HN := Lib.hid hn
  have HT := Lib.hid ht
  clear hS hY hn ht
  go_enter Tryd.func5, Tryd.ntmps5
  go_upto_region 3 with (go_at_call 8; refine (awake_any w).mono ?_; rintro e w3 ⟨rfl, hB3⟩)
  have HB3 := Lib.hid hB3
  clear hB3
  cases hd : decP L with
  | error x =>
    obtain ⟨a, er⟩ := x
    obtain ⟨hnz, hle⟩ := decP_err HY.out hd
    have HD := Lib.hid hd
    have t0 : (er != 0) = true := by rw [bne_iff_ne]; exact hnz
    have HAL := Lib.hid (show a ≤ n by rw [HS.out.len.out] at hle; exact hle)
    clear hd hnz hle
    go_upto_region 4 with (first
      | (go_at_call 27; refine (copyBytes_own w3 A n c L (HS.out.up HB3.out) HN.out).mono ?_; rintro e w4 ⟨v4, rfl, hO4, hB4⟩; have HB4 := Lib.hid (HB3.out.trans (hB4.mono HB3.out.size)); obtain ⟨A4, n4, c4, rfl, hs4⟩ := own_full hO4; have HS4 := Lib.hid hs4; clear hO4 hB4 hs4)
      | (go_at_call 26; refine (decode_any w4 A4 n4 c4 L HS4.out HY.out (by have h1 := HS4.out.len.out; have h2 := HS.out.len.out; have h3 := HN.out; omega)).mono ?_; rintro e w5 ⟨hB5, hR⟩; rw [HD.out] at hR; obtain rfl := hR; have HB5 := Lib.hid (HB4.out.trans (hB5.mono HB4.out.size)); clear hB5)
      | (refine wpList_alloc_seg rfl 25 rfl 5 zeroPkF zeroPk ?_; intro w8 h8 hB8 hs8)
      | (refine wpList_store_all rfl 25 _ _ rfl w5.heap.size 25 5 _ zeroPkF rfl rfl h8 sizePk (pkF_one rfl rfl rfl) ?_; intro w9 h9 hT9 hs9))
    obtain ⟨gp, hgp⟩ : ∃ g, g = w5.heap.size := ⟨_, rfl⟩
    have hb9 : Below w5.heap.size w5 w9 := hB8.trans (hT9.below (Nat.le_refl _) hB8.size)
    rw [← hgp] at h9 ⊢
    have HB9 := Lib.hid (HB5.out.trans (hb9.mono HB5.out.size))
    have HK9 := Lib.hid h9
    clear h8 hB8 hs8 h9 hT9 hs9 hb9 hgp HB5 HS4 HB4
    have q1 : (0 : Int) ≤ (a : Int) := by omega
    have q2 : (a : Int) ≤ (n : Int) := by have := HAL.out; omega
    have q3 : a ≤ n := HAL.out
    go_wp2_with (first
      | (refine wpList_load_all rfl 25 _ rfl gp rfl 25 5 zeroPkF _ HK9.out Tryd.underlying25 rfl sizePk ?_)
      | (go_at_call 14; refine (sameNone_any _).mono ?_; rintro e u ⟨rfl, hBu⟩))
    go_ret
    exact ⟨rfl, HB9.out.trans (hBu.mono HB9.out.size)⟩
  | ok k =>
    obtain ⟨hen, he, hbd, hbc⟩ := forth HY.out hd
    have HD := Lib.hid hd
    have HEN := Lib.hid hen
    have HE := Lib.hid he
    have HK := Lib.hid (small_read he hbd hbc)
    clear hd hen he hbd hbc
    go_upto_region 4 with (first
      | (go_at_call 27; refine (copyBytes_own w3 A n c L (HS.out.up HB3.out) HN.out).mono ?_; rintro e w4 ⟨v4, rfl, hO4, hB4⟩; have HB4 := Lib.hid (HB3.out.trans (hB4.mono HB3.out.size)); obtain ⟨A4, n4, c4, rfl, hs4⟩ := own_full hO4; have HS4 := Lib.hid hs4; clear hO4 hB4 hs4)
      | (go_at_call 26; refine (decode_any w4 A4 n4 c4 L HS4.out HY.out (by have h1 := HS4.out.len.out; have h2 := HS.out.len.out; have h3 := HN.out; omega)).mono ?_; rintro e w5 ⟨hB5, hR⟩; rw [HD.out] at hR; obtain ⟨vd, vt, vc, rfl, hd, hT, hc⟩ := hR; have HB5 := Lib.hid (HB4.out.trans (hB5.mono HB4.out.size)); have HK5 := Lib.hid (show PkAt w5 vd vt vc k from pkAt_of hd hT hc); obtain ⟨Ac, nc, cc, rfl, hsc⟩ := own_full hc; have HSC := Lib.hid hsc; have HO1 := Lib.hid (pkF_one (lo := k.lo) (hi := k.hi) (ownB_one hd) (ownT_form hT) (ownB_one hc)); clear hB5 hd hT hc hsc; obtain ⟨F, hF⟩ : ∃ F, F = pkF k.lo k.hi vd vt (.slice Ac nc cc) := ⟨_, rfl⟩; rw [← hF]; rw [← hF] at HO1; have HF := Lib.hid hF; clear hF)
      | (refine wpList_alloc_seg rfl 25 rfl 5 zeroPkF zeroPk ?_; intro w8 h8 hB8 hs8)
      | (refine wpList_store_all rfl 25 _ _ rfl w5.heap.size 25 5 _ F rfl rfl h8 sizePk HO1.out ?_; intro w9 h9 hT9 hs9))
    obtain ⟨gp, hgp⟩ : ∃ g, g = w5.heap.size := ⟨_, rfl⟩
    have hb9 : Below w5.heap.size w5 w9 := hB8.trans (hT9.below (Nat.le_refl _) hB8.size)
    rw [← hgp] at h9 ⊢
    have HB9 := Lib.hid (HB5.out.trans (hb9.mono HB5.out.size))
    have HF9 := Lib.hid h9
    have HK9 := Lib.hid (HK5.out.up hb9)
    have HSC9 := Lib.hid (HSC.out.up hb9)
    clear h8 hB8 hs8 h9 hT9 hs9 hb9 hgp HB5 HS4 HB4 HK5 HSC HO1
    go_upto_region 7 with (first
      | (refine wpList_load_all rfl 25 _ rfl gp rfl 25 5 F _ HF9.out Tryd.underlying25 rfl sizePk ?_)
      | (go_at_call 13; rw [HF.out]; refine (copyPack_any w9 k _ _ _ HK9.out HK.out.data HK.out.code HK.out.tabs).mono ?_; rintro e w10 ⟨ud, ut, uc, rfl, hP10, hB10⟩; have HP10 := Lib.hid hP10; have HB10k := Lib.hid hB10; have HB10 := Lib.hid (HB9.out.trans (hB10.mono HB9.out.size)); clear hP10 hB10; rw [← HF.out]; obtain ⟨Z, hZ⟩ : ∃ Z, Z = pkF k.lo k.hi ud ut uc := ⟨_, rfl⟩; rw [← hZ]; have HZ := Lib.hid hZ; clear hZ)
      | (go_at_call 28; rw [HZ.out]; refine (encode_any w10 k _ _ _ HP10.out HK.out.bd HK.out.bc HK.out.code (by have := HK.out.tabs; omega)).mono ?_; rintro e w11 ⟨hB11, v, rfl, hv⟩; rw [← HZ.out, HE.out]; rw [HE.out, if_pos rfl] at hv; have HB11k := Lib.hid (HB10k.out.trans (hB11.mono HB10k.out.size)); have HB11 := Lib.hid (HB10.out.trans (hB11.mono HB10.out.size)); obtain ⟨A6, n6, c6, rfl, hm⟩ := own_full hv; have HM := Lib.hid hm; clear hB11 hv hm))
    have HSB := Lib.hid (sameBytes_any w11 A n c A6 n6 c6 L (encW k) HS.out.len.out HM.out.len.out (HS.out.up HB11.out).byt HM.out.byt HY.out (by rw [HEN.out]; exact HY.out))
    rw [decide_eq_true HEN.out.symm] at HSB
    have HF11 := Lib.hid (HF9.out.up HB11k.out)
    have HK11 := Lib.hid (HK9.out.up HB11k.out)
    have HSC11 := Lib.hid (HSC9.out.up HB11k.out)
    clear HP10 HZ HB10 HB10k HB11k HF9 HK9 HSC9 HB9 HM HEN
    go_upto_region 9 with (go_at_call 29; refine HSB.out.mono ?_; rintro e u ⟨rfl, rfl⟩)
    clear HSB
    by_cases hpg : (progG k).1.2 = 0
    case neg =>
      obtain ⟨-, hp0, hp1⟩ := prog_err (fun x hx => HK.out.bc x hx) hpg
      have HPG := Lib.hid hpg
      obtain ⟨pr, hpr⟩ : ∃ pr, pr = progG k := ⟨_, rfl⟩
      rw [← hpr] at hp0 hp1 hpg
      have HPR := Lib.hid hpr
      clear hpr
      obtain ⟨⟨pat, per⟩, pz⟩ := pr
      simp only at hp0 hp1 hpg
      have t1 : (per != 0) = true := by rw [bne_iff_ne]; exact hpg
      have HP0 := Lib.hid hp0
      have HP1 := Lib.hid (show pat ≤ (nc / 8 : Nat) by rw [← HSC11.out.len.out]; exact hp1)
      clear hp0 hp1 hpg
      go_upto_region 10 with (first
        | (refine wpList_load_all rfl 25 _ rfl gp rfl 25 5 F _ HF11.out Tryd.underlying25 rfl sizePk ?_)
        | (go_at_call 13; rw [HF.out]; refine (copyPack_any w11 k _ _ _ HK11.out HK.out.data HK.out.code HK.out.tabs).mono ?_; rintro e w12 ⟨ud, ut, uc, rfl, hP12, hB12⟩; have HP12 := Lib.hid hP12; have HB12k := Lib.hid hB12; have HB12 := Lib.hid (HB11.out.trans (hB12.mono HB11.out.size)); clear hP12 hB12; rw [← HF.out]; obtain ⟨Z, hZ⟩ : ∃ Z, Z = pkF k.lo k.hi ud ut uc := ⟨_, rfl⟩; rw [← hZ]; have HZ := Lib.hid hZ; clear hZ)
        | (go_at_call 11; rw [HZ.out]; refine (program_any w12 k _ _ _ HP12.out HK.out (HT.out.below HB12.out)).mono ?_; rintro e w13 ⟨hB13, hR⟩; obtain rfl := hR.no HPG.out; rw [← HZ.out, ← HPR.out]; have HB13k := Lib.hid (HB12k.out.trans (hB13.mono HB12k.out.size)); have HB13 := Lib.hid (HB12.out.trans (hB13.mono HB12.out.size)); clear hB13 hR)
        | (refine wpList_alloc_seg rfl 33 rfl 5 zeroPkF zeroPg ?_; intro w14 h14 hB14 hs14)
        | (refine wpList_store_all rfl 33 _ _ rfl w13.heap.size 33 5 _ zeroPkF rfl rfl h14 sizePg (pkF_one rfl rfl rfl) ?_; intro w15 h15 hT15 hs15))
      obtain ⟨gq, hgq⟩ : ∃ g, g = w13.heap.size := ⟨_, rfl⟩
      have hb15 : Below w13.heap.size w13 w15 := hB14.trans (hT15.below (Nat.le_refl _) hB14.size)
      rw [← hgq] at h15 ⊢
      have HB15 := Lib.hid (HB13.out.trans (hb15.mono HB13.out.size))
      have HB15k := Lib.hid (HB13k.out.trans (hb15.mono HB13k.out.size))
      have HK15 := Lib.hid h15
      have HF15 := Lib.hid (HF11.out.up HB15k.out)
      clear h14 hB14 hs14 h15 hT15 hs15 hb15 hgq HB13 HB13k HZ HB12 HB12k HP12
      have q1 : (0 : Int) ≤ pat := HP0.out
      have q2 : pat ≤ (nc : Int) / 8 := by have := HP1.out; omega
      have q3 : pat ≤ wrap64 ((nc : Int) / 8) := by rw [w64_in _ (by have h1 := HSC11.out.len.out; have h2 := HK.out.code; omega)]; exact q2
      go_upto_region 11 with fail
      go_wp2_with (first
        | (refine wpList_load_all rfl 33 _ rfl gq rfl 33 5 zeroPkF _ HK15.out Tryd.underlying33 rfl sizePg ?_)
        | (go_at_call 17; refine (samePgNone_any _).mono ?_; rintro e u ⟨rfl, hBu⟩; have x4 : u.cell? ⟨gp, 4, none⟩ = some (.slice Ac nc cc) := by rw [(HF15.out.up hBu).cell 4 (by decide), HF.out]; rfl))
      go_ret
      exact ⟨rfl, HB15.out.trans (hBu.mono HB15.out.size)⟩
    obtain ⟨hpr1, hck, hof, hc0, hec, hne, hgd, hl4⟩ := faithful (fun x hx => HK.out.bc x hx) hpg
    have HSG := Lib.hid (smallG_prog HK.out hpg)
    have HPG := Lib.hid hpg
    obtain ⟨g, hg⟩ : ∃ g, g = (progG k).2 := ⟨_, rfl⟩
    rw [← hg] at hck hof hc0 hec hne hgd hl4 HSG
    have HGG := Lib.hid hg
    have HCK := Lib.hid hck
    have HOF := Lib.hid hof
    have HC0 := Lib.hid hc0
    have HEC := Lib.hid hec
    have HNE := Lib.hid hne
    have HGD := Lib.hid hgd
    have HL4 := Lib.hid hl4
    clear hpr1 hck hof hc0 hec hne hgd hl4 hpg hg
    go_upto_region 10 with (first
      | (refine wpList_load_all rfl 25 _ rfl gp rfl 25 5 F _ HF11.out Tryd.underlying25 rfl sizePk ?_)
      | (go_at_call 13; rw [HF.out]; refine (copyPack_any w11 k _ _ _ HK11.out HK.out.data HK.out.code HK.out.tabs).mono ?_; rintro e w12 ⟨ud, ut, uc, rfl, hP12, hB12⟩; have HP12 := Lib.hid hP12; have HB12k := Lib.hid hB12; have HB12 := Lib.hid (HB11.out.trans (hB12.mono HB11.out.size)); clear hP12 hB12; rw [← HF.out]; obtain ⟨Z, hZ⟩ : ∃ Z, Z = pkF k.lo k.hi ud ut uc := ⟨_, rfl⟩; rw [← hZ]; have HZ := Lib.hid hZ; clear hZ)
      | (go_at_call 11; rw [HZ.out]; refine (program_any w12 k _ _ _ HP12.out HK.out (HT.out.below HB12.out)).mono ?_; rintro e w13 ⟨hB13, hR⟩; obtain ⟨jd, jt, jc, rfl, hd, hT, hc⟩ := hR.yes HPG.out; rw [← HZ.out, ← HGG.out]; rw [← HGG.out] at hd hT hc; have HB13k := Lib.hid (HB12k.out.trans (hB13.mono HB12k.out.size)); have HB13 := Lib.hid (HB12.out.trans (hB13.mono HB12.out.size)); have HG13 := Lib.hid (show PgAt w13 jd jt jc g from pgAt_of hd hT hc); obtain ⟨Ai, ni, ci, rfl, hsi⟩ := cs_of hc; have HSI := Lib.hid hsi; have HO1 := Lib.hid (pkF_one (lo := g.lo) (hi := g.hi) (ownB_one hd) (ownT_form hT) (ownR_one hc)); clear hB13 hR hd hT hc hsi; obtain ⟨J, hJ⟩ : ∃ F, F = pkF g.lo g.hi jd jt (.slice Ai ni ci) := ⟨_, rfl⟩; rw [← hJ]; rw [← hJ] at HO1; have HJ := Lib.hid hJ; clear hJ)
      | (refine wpList_alloc_seg rfl 33 rfl 5 zeroPkF zeroPg ?_; intro w14 h14 hB14 hs14)
      | (refine wpList_store_all rfl 33 _ _ rfl w13.heap.size 33 5 _ J rfl rfl h14 sizePg HO1.out ?_; intro w15 h15 hT15 hs15))
    obtain ⟨gq, hgq⟩ : ∃ g, g = w13.heap.size := ⟨_, rfl⟩
    have hb15 : Below w13.heap.size w13 w15 := hB14.trans (hT15.below (Nat.le_refl _) hB14.size)
    rw [← hgq] at h15 ⊢
    have HB15 := Lib.hid (HB13.out.trans (hb15.mono HB13.out.size))
    have HB15k := Lib.hid (HB13k.out.trans (hb15.mono HB13k.out.size))
    have HJ15 := Lib.hid h15
    have HG15 := Lib.hid (HG13.out.up hb15)
    have HSI15 := Lib.hid (HSI.out.up hb15)
    have HF15 := Lib.hid (HF11.out.up HB15k.out)
    have HK15 := Lib.hid (HK11.out.up HB15k.out)
    have HSC15 := Lib.hid (HSC11.out.up HB15k.out)
    clear h14 hB14 hs14 h15 hT15 hs15 hb15 hgq HB13 HB13k HZ HB12 HB12k HP12 HG13 HSI HO1 HF11 HK11 HSC11 HB15k HB11
    go_upto_region 13 with (first
      | (refine wpList_load_all rfl 33 _ rfl gq rfl 33 5 J _ HJ15.out Tryd.underlying33 rfl sizePg ?_)
      | (go_at_call 22; rw [HJ.out]; refine (copyProgram_any w15 g _ _ _ HG15.out HSG.out.data HSG.out.code HSG.out.tabs).mono ?_; rintro e w16 ⟨ud, ut, uc, rfl, hP16, hB16⟩; have HP16 := Lib.hid hP16; have HB16k := Lib.hid hB16; have HB16 := Lib.hid (HB15.out.trans (hB16.mono HB15.out.size)); clear hP16 hB16; rw [← HJ.out]; obtain ⟨Z, hZ⟩ : ∃ Z, Z = pkF g.lo g.hi ud ut uc := ⟨_, rfl⟩; rw [← hZ]; have HZ := Lib.hid hZ; clear hZ)
      | (go_at_call 19; rw [HZ.out]; refine (of_any w16 g _ _ _ HP16.out HSG.out (HT.out.below HB16.out)).mono ?_; rintro e w17 ⟨hB17, hR⟩; obtain ⟨kd, kt, kc, rfl, hO1, hO2, hO3⟩ := hR.yes (by rw [HCK.out]); rw [← HZ.out]; have HB17k := Lib.hid (HB16k.out.trans (hB17.mono HB16k.out.size)); have HB17 := Lib.hid (HB16.out.trans (hB17.mono HB16.out.size)); have HO17 := Lib.hid (show PkAt w17 kd kt kc (ofG g) from pkAt_of hO1 hO2 hO3); have HO1 := Lib.hid (pkF_one (lo := g.lo) (hi := g.hi) (ownB_one hO1) (ownT_form hO2) (ownB_one hO3)); clear hB17 hR hO1 hO2 hO3; obtain ⟨E, hE⟩ : ∃ F, F = pkF g.lo g.hi kd kt kc := ⟨_, rfl⟩; rw [← hE]; rw [← hE] at HO1; have HE2 := Lib.hid hE; clear hE)
      | (refine wpList_alloc_seg rfl 25 rfl 5 zeroPkF zeroPk ?_; intro w18 h18 hB18 hs18)
      | (refine wpList_store_all rfl 25 _ _ rfl w17.heap.size 25 5 _ E rfl rfl h18 sizePk HO1.out ?_; intro w19 h19 hT19 hs19))
    obtain ⟨go, hgo⟩ : ∃ g, g = w17.heap.size := ⟨_, rfl⟩
    have hb19 : Below w17.heap.size w17 w19 := hB18.trans (hT19.below (Nat.le_refl _) hB18.size)
    rw [← hgo] at h19 ⊢
    have HB19 := Lib.hid (HB17.out.trans (hb19.mono HB17.out.size))
    have HB19k := Lib.hid (HB17k.out.trans (hb19.mono HB17k.out.size))
    have HE19 := Lib.hid h19
    have HO19 := Lib.hid (HO17.out.up hb19)
    have HJ19 := Lib.hid (HJ15.out.up HB19k.out)
    have HG19 := Lib.hid (HG15.out.up HB19k.out)
    have HSI19 := Lib.hid (HSI15.out.up HB19k.out)
    have HF19 := Lib.hid (HF15.out.up HB19k.out)
    have HK19 := Lib.hid (HK15.out.up HB19k.out)
    have HSC19 := Lib.hid (HSC15.out.up HB19k.out)
    clear h18 hB18 hs18 h19 hT19 hs19 hb19 hgo HB17 HB17k HZ HB16 HB16k HP16 HO17 HO1 HJ15 HG15 HSI15 HF15 HK15 HSC15 HB19k HB15
    have x4 : w19.cell? ⟨gq, 4, none⟩ = some (.slice Ai ni ci) := by rw [HJ19.out.cell 4 (by decide), HJ.out]; rfl
    have HNI := Lib.hid (show ni ≤ 4096 by rw [← HSI19.out.len.out]; exact HL4.out)
    go_upto_region 14 with (first
      | (go_at_call 31; refine (copyCode_own w19 Ai ni ci g.code HSI19.out (by have := HNI.out; omega)).mono ?_; rintro e w20 ⟨v20, rfl, hO20, hB20⟩; obtain ⟨A20, n20, c20, rfl, hs20⟩ := cs_of hO20; have HS20 := Lib.hid hs20; have HB20k := Lib.hid hB20; have HB20 := Lib.hid (HB19.out.trans (hB20.mono HB19.out.size)); clear hO20 hs20 hB20)
      | (go_at_call 30; refine (encode_ok w20 A20 n20 c20 g.code HS20.out.len.out (by have h1 := HS20.out.len.out; have h2 := HL4.out; omega) HS20.out.row (HT.out.below HB20.out) HC0.out).mono ?_; rintro e w21 ⟨v21, rfl, hO21, hB21⟩; obtain ⟨A21, n21, c21, rfl, hs21⟩ := own_full hO21; have HS21 := Lib.hid hs21; have HB21k := Lib.hid (HB20k.out.trans (hB21.mono HB20k.out.size)); have HB21 := Lib.hid (HB20.out.trans (hB21.mono HB20.out.size)); clear hO21 hs21 hB21))
    have HE21 := Lib.hid (HE19.out.up HB21k.out)
    have HO21 := Lib.hid (HO19.out.up HB21k.out)
    have HJ21 := Lib.hid (HJ19.out.up HB21k.out)
    have HG21 := Lib.hid (HG19.out.up HB21k.out)
    have HF21 := Lib.hid (HF19.out.up HB21k.out)
    have HK21 := Lib.hid (HK19.out.up HB21k.out)
    have HSC21 := Lib.hid (HSC19.out.up HB21k.out)
    clear x4 HS20 HB20 HB20k HB21k HE19 HO19 HJ19 HG19 HF19 HK19 HSC19 HB19
    go_upto_region 15 with (first
      | (refine wpList_load_all rfl 33 _ rfl gq rfl 33 5 J _ HJ21.out Tryd.underlying33 rfl sizePg ?_)
      | (go_at_call 22; rw [HJ.out]; refine (copyProgram_any w21 g _ _ _ HG21.out HSG.out.data HSG.out.code HSG.out.tabs).mono ?_; rintro e w22 ⟨ud, ut, uc, rfl, hP22, hB22⟩; have HP22 := Lib.hid hP22; have HB22k := Lib.hid hB22; have HB22 := Lib.hid (HB21.out.trans (hB22.mono HB21.out.size)); clear hP22 hB22; rw [← HJ.out]; obtain ⟨Z, hZ⟩ : ∃ Z, Z = pkF g.lo g.hi ud ut uc := ⟨_, rfl⟩; rw [← hZ]; have HZ := Lib.hid hZ; clear hZ)
      | (go_at_call 20; rw [HZ.out]; refine (checkP_any w22 g _ _ _ HP22.out HSG.out).mono ?_; rintro e w23 ⟨rfl, hB23⟩; rw [← HZ.out, HCK.out]; have HB23k := Lib.hid (HB22k.out.trans (hB23.mono HB22k.out.size)); have HB23 := Lib.hid (HB22.out.trans (hB23.mono HB22.out.size)); clear hB23))
    have HE23 := Lib.hid (HE21.out.up HB23k.out)
    have HO23 := Lib.hid (HO21.out.up HB23k.out)
    have HJ23 := Lib.hid (HJ21.out.up HB23k.out)
    have HF23 := Lib.hid (HF21.out.up HB23k.out)
    have HK23 := Lib.hid (HK21.out.up HB23k.out)
    have HSC23 := Lib.hid (HSC21.out.up HB23k.out)
    have HS23 := Lib.hid (HS21.out.up HB23k.out)
    rw [HOF.out] at HO23
    have HSP := Lib.hid (samePack_any w23 k k _ _ _ _ _ _ HO23.out HK23.out HK.out.bd HK.out.bc HK.out.bd HK.out.bc (by have := HK.out.tabs; omega) (by have := HK.out.tabs; omega))
    rw [samePk_self] at HSP
    have HLO := Lib.hid (show g.lo = k.lo ∧ g.hi = k.hi from ⟨congrArg Pk.lo HOF.out, congrArg Pk.hi HOF.out⟩)
    have hni : 0 < ni := by
      rw [← HSI19.out.len.out]
      cases hgc : g.code with
      | nil => exact absurd hgc HNE.out
      | cons x t => simp
    have q1 : (0 : Int) < (ni : Int) := by omega
    clear HP22 HZ HB22 HB22k HE21 HO21 HJ21 HG21 HF21 HK21 HSC21 HS21 HB21 HSI19
    go_wp2_with (first
      | (refine wpList_load_cells rfl 25 _ rfl go 0 rfl 5 E _ (fb_cells HE23.out) Tryd.underlying25 rfl sizePk ?_)
      | (refine wpList_load_cells rfl 25 _ rfl gp 0 rfl 5 F _ (fb_cells HF23.out) Tryd.underlying25 rfl sizePk ?_)
      | (go_at_call 14; rw [HE2.out, HF.out, HLO.out.1, HLO.out.2]; refine HSP.out.mono ?_; rintro e w24 ⟨rfl, hB24⟩; have HB24 := Lib.hid (HB23.out.trans (hB24.mono HB23.out.size)); have x4 : w24.cell? ⟨gp, 4, none⟩ = some (.slice Ac nc cc) := by rw [(HF23.out.up hB24).cell 4 (by decide), HF.out]; rfl
         have y4 : w24.cell? ⟨gq, 4, none⟩ = some (.slice Ai ni ci) := by rw [(HJ23.out.up hB24).cell 4 (by decide), HJ.out]; rfl
         have HSB := Lib.hid (sameBytes_any w24 A21 n21 c21 Ac nc cc (encB g.code) k.code HS23.out.len.out HSC23.out.len.out (HS23.out.up hB24).byt (HSC23.out.up hB24).byt (by rw [HEC.out]; exact HK.out.bc) HK.out.bc); rw [decide_eq_true HEC.out] at HSB)
      | (go_at_call 29; refine HSB.out.mono ?_; rintro e u ⟨rfl, rfl⟩))
    go_ret
    exact ⟨rfl, HB24.out⟩
end Go.Proofs.YtlodoinmippebaaDoor.Pak
