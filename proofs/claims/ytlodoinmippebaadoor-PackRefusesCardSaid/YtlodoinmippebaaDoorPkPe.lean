/- Package pack: PackAgain's walk: any program, checked, made a container, written, read, and read as a program. -/
import Derived.Test.YtlodoinmippebaaDoorPkPd
namespace Go.Proofs.YtlodoinmippebaaDoor.Pak
open Go.ChangeShapes Go.WideShapes Go.ChangeAt Go.RowKit
open Cod
set_option linter.unusedVariables false
set_option linter.unusedSimpArgs false
set_option maxRecDepth 100000
theorem fb_cells {w : World} {g : Nat} {t : TypeId} {n : Nat} {f : Nat → Value} (h : FB w g t n f) : ∀ k, k < n → w.cell? ⟨g, 0 + k, none⟩ = some (f k) := fun k hk => by rw [Nat.zero_add]; exact h.cell k hk
theorem pgNone_at (w : World) : PgAt w (.slice none 0 0) (.slice none 0 0) (.slice none 0 0) Pg.none :=
  ⟨⟨none, 0, 0, rfl, ⟨Lib.hid rfl, Nat.le_refl _, fun hp => absurd hp (by simp [Pg.none]), fun b off e => by cases e⟩⟩,
   ⟨none, 0, 0, rfl, ⟨Lib.hid rfl, Nat.le_refl _, fun hp => absurd hp (by simp [Pg.none])⟩⟩,
   ⟨none, 0, 0, rfl, ⟨Lib.hid rfl, Nat.le_refl _, fun hp => absurd hp (by simp [Pg.none])⟩⟩⟩
theorem ofG_small {g : Pg} (hs : SmallG g) (hg : ∀ i ∈ g.code, Good i) (hl : g.code.length ≤ 4096) : Small (ofG g) := by
  have := encB_length g.code
  refine ⟨hs.data, ?_, hs.tabs, hs.bd, fun x hx => encB_bytes g.code hg x hx⟩
  show (encB g.code).length ≤ _
  omega
theorem samePg_self (g : Pg) : samePg g g = true := (samePg_iff g g).2 rfl
theorem samePk_self (k : Pk) : samePk k k = true := (samePk_iff k k).2 rfl
structure BxS (ga : Nat) (t : TypeId) (X : Nat → Value) (W : World) : Prop where
  a : FB W ga t 5 X
set_option maxHeartbeats 8000000 in
theorem packAgain_any (w : World) (g : Pg) (vd vt vc : Value) (hp : PgAt w vd vt vc g) (hs : SmallG g) (ht : Tabs w) :
    Calls Tryd.prog 6 #[.agg (arr 5 (pkF g.lo g.hi vd vt vc))] w (RetB w (.bool true)) := by
  obtain ⟨X, hX⟩ : ∃ X, X = pkF g.lo g.hi vd vt vc := ⟨_, rfl⟩
  rw [← hX]
  have HX := Lib.hid hX
  have HP := Lib.hid hp
  have HS := Lib.hid hs
  have HT := Lib.hid ht
  clear hX hp hs ht
  obtain ⟨ck, hck⟩ : ∃ ck, ck = checkG g := ⟨_, rfl⟩
  have HCK := Lib.hid hck
  clear hck
  obtain ⟨at_, er⟩ := ck
  go_enter Tryd.func6, Tryd.ntmps6
  go_upto_region 1 with (refine wpList_box_seg rfl _ (.tmp 0) rfl 5 X rfl ?_; intro w1 h1 hB1 hs1)
  obtain ⟨ga, hga⟩ : ∃ g, g = w.heap.size := ⟨_, rfl⟩
  rw [← hga] at h1 ⊢
  have HB1 := Lib.hid hB1
  have HA1 := Lib.hid h1
  clear h1 hB1 hs1 hga
  go_upto_region 3 with (go_at_call 8; refine (awake_any w1).mono ?_; rintro e w3 ⟨rfl, hB3⟩)
  have HA3 := Lib.hid (HA1.out.up hB3)
  have HB3 := Lib.hid (HB1.out.trans (hB3.mono HB1.out.size))
  clear hB3 HA1 HB1
  go_upto_region 4 with (first
    | (refine wpList_load_all rfl 33 _ rfl ga rfl 33 5 X _ HA3.out Tryd.underlying33 rfl sizePg ?_)
    | (go_at_call 22; rw [HX.out]; refine (copyProgram_any w3 g _ _ _ (HP.out.up HB3.out) HS.out.data HS.out.code HS.out.tabs).mono ?_; rintro e w4 ⟨ud, ut, uc, rfl, hP4, hB4⟩; have HP4 := Lib.hid hP4; have HB4 := Lib.hid (HB3.out.trans (hB4.mono HB3.out.size)); have HA4 := Lib.hid (HA3.out.up hB4); clear hP4 hB4; rw [← HX.out]; obtain ⟨Z, hZ⟩ : ∃ Z, Z = pkF g.lo g.hi ud ut uc := ⟨_, rfl⟩; rw [← hZ]; have HZ := Lib.hid hZ; clear hZ)
    | (go_at_call 20; rw [HZ.out]; refine (checkP_any w4 g _ _ _ HP4.out HS.out).mono ?_; rintro e w5 ⟨rfl, hB5⟩; rw [← HZ.out, ← HCK.out]; have HA5 := Lib.hid (HA4.out.up hB5); have HB5 := Lib.hid (HB4.out.trans (hB5.mono HB4.out.size)); clear hB5))
  clear HP4 HB4 HA4 HB3 HA3 HZ
  by_cases h0 : er = 0
  case neg =>
    have t0 : (er != 0) = true := by rw [bne_iff_ne]; exact h0
    have HE := Lib.hid (show (checkG g).2 ≠ 0 by rw [← HCK.out]; exact h0)
    clear h0
    go_upto_region 5 with (first
      | (refine wpList_load_all rfl 33 _ rfl ga rfl 33 5 X _ HA5.out Tryd.underlying33 rfl sizePg ?_)
      | (go_at_call 22; rw [HX.out]; refine (copyProgram_any w5 g _ _ _ (HP.out.up HB5.out) HS.out.data HS.out.code HS.out.tabs).mono ?_; rintro e w6 ⟨ud, ut, uc, rfl, hP6, hB6⟩; have HP6 := Lib.hid hP6; have HB6 := Lib.hid (HB5.out.trans (hB6.mono HB5.out.size)); clear hP6 hB6; rw [← HX.out]; obtain ⟨Z, hZ⟩ : ∃ Z, Z = pkF g.lo g.hi ud ut uc := ⟨_, rfl⟩; rw [← hZ]; have HZ := Lib.hid hZ; clear hZ)
      | (go_at_call 19; rw [HZ.out]; refine (of_any w6 g _ _ _ HP6.out HS.out (HT.out.below HB6.out)).mono ?_; rintro e w7 ⟨hB7, hR⟩; obtain rfl := hR.no HE.out; rw [← HZ.out, ← HCK.out]; have HB7 := Lib.hid (HB6.out.trans (hB7.mono HB6.out.size)); clear hB7 hR)
      | (refine wpList_alloc_seg rfl 25 rfl 5 zeroPkF zeroPk ?_; intro w8 h8 hB8 hs8)
      | (refine wpList_store_all rfl 25 _ _ rfl w7.heap.size 25 5 _ zeroPkF rfl rfl h8 sizePk (pkF_one rfl rfl rfl) ?_; intro w9 h9 hT9 hs9))
    obtain ⟨gp, hgp⟩ : ∃ g, g = w7.heap.size := ⟨_, rfl⟩
    have hb9 : Below w7.heap.size w7 w9 := hB8.trans (hT9.below (Nat.le_refl _) hB8.size)
    rw [← hgp] at h9 ⊢
    have HB9 := Lib.hid (HB7.out.trans (hb9.mono HB7.out.size))
    have HK9 := Lib.hid h9
    clear h8 hB8 hs8 h9 hT9 hs9 hb9 hgp HP6 HB6 HZ HB7 HA5 HB5
    go_wp2_with (first
      | (refine wpList_load_all rfl 25 _ rfl gp rfl 25 5 zeroPkF _ HK9.out Tryd.underlying25 rfl sizePk ?_)
      | (go_at_call 14; refine (sameNone_any _).mono ?_; rintro e u ⟨rfl, hBu⟩))
    go_ret
    exact ⟨rfl, HB9.out.trans (hBu.mono HB9.out.size)⟩
  subst h0
  obtain ⟨hen, hpr, hgood, hlen⟩ := again HS.out.rng (p := g) (by rw [← HCK.out])
  have HE := Lib.hid (show (checkG g).2 = 0 by rw [← HCK.out])
  have hat := (check_zero HE.out).2.2.2
  rw [← HCK.out] at hat
  simp only at hat
  subst hat
  have HSK := Lib.hid (ofG_small HS.out hgood hlen)
  have HEN := Lib.hid hen
  have HPR := Lib.hid hpr
  have HLN := Lib.hid hlen
  clear hen hpr hgood hlen
  go_upto_region 5 with (first
    | (refine wpList_load_all rfl 33 _ rfl ga rfl 33 5 X _ HA5.out Tryd.underlying33 rfl sizePg ?_)
    | (go_at_call 22; rw [HX.out]; refine (copyProgram_any w5 g _ _ _ (HP.out.up HB5.out) HS.out.data HS.out.code HS.out.tabs).mono ?_; rintro e w6 ⟨ud, ut, uc, rfl, hP6, hB6⟩; have HP6 := Lib.hid hP6; have HA6 := Lib.hid (HA5.out.up hB6); have HB6 := Lib.hid (HB5.out.trans (hB6.mono HB5.out.size)); clear hP6 hB6; rw [← HX.out]; obtain ⟨Z, hZ⟩ : ∃ Z, Z = pkF g.lo g.hi ud ut uc := ⟨_, rfl⟩; rw [← hZ]; have HZ := Lib.hid hZ; clear hZ)
    | (go_at_call 19; rw [HZ.out]; refine (of_any w6 g _ _ _ HP6.out HS.out (HT.out.below HB6.out)).mono ?_; rintro e w7 ⟨hB7, hR⟩; obtain ⟨kd, kt, kc, rfl, hO1, hO2, hO3⟩ := hR.yes HE.out; rw [← HZ.out]; have HA7 := Lib.hid (HA6.out.up hB7); have HB7 := Lib.hid (HB6.out.trans (hB7.mono HB6.out.size)); have HK7 := Lib.hid (show PkAt w7 kd kt kc (ofG g) from pkAt_of hO1 hO2 hO3); have HO1 := Lib.hid (pkF_one (lo := g.lo) (hi := g.hi) (ownB_one hO1) (ownT_form hO2) (ownB_one hO3)); clear hB7 hR hO1 hO2 hO3; obtain ⟨F, hF⟩ : ∃ F, F = pkF g.lo g.hi kd kt kc := ⟨_, rfl⟩; rw [← hF]; rw [← hF] at HO1; have HF := Lib.hid hF; clear hF)
    | (refine wpList_alloc_seg rfl 25 rfl 5 zeroPkF zeroPk ?_; intro w8 h8 hB8 hs8)
    | (refine wpList_store_all rfl 25 _ _ rfl w7.heap.size 25 5 _ F rfl rfl h8 sizePk HO1.out ?_; intro w9 h9 hT9 hs9))
  obtain ⟨gp, hgp⟩ : ∃ g, g = w7.heap.size := ⟨_, rfl⟩
  have hb9 : Below w7.heap.size w7 w9 := hB8.trans (hT9.below (Nat.le_refl _) hB8.size)
  rw [← hgp] at h9 ⊢
  have HB9 := Lib.hid (HB7.out.trans (hb9.mono HB7.out.size))
  have HF9 := Lib.hid h9
  have HA9 := Lib.hid (HA7.out.up hb9)
  have HK9 := Lib.hid (HK7.out.up hb9)
  clear h8 hB8 hs8 h9 hT9 hs9 hb9 hgp HP6 HB6 HZ HB7 HA5 HB5 HA6 HA7 HK7 HO1
  go_upto_region 10 with (first
    | (refine wpList_load_all rfl 25 _ rfl gp rfl 25 5 F _ HF9.out Tryd.underlying25 rfl sizePk ?_)
    | (go_at_call 13; rw [HF.out]; refine (copyPack_any w9 (ofG g) _ _ _ HK9.out HSK.out.data HSK.out.code HSK.out.tabs).mono ?_; rintro e w10 ⟨ud, ut, uc, rfl, hP10, hB10⟩; have HP10 := Lib.hid hP10; have HA10 := Lib.hid (HA9.out.up hB10); have HB10 := Lib.hid (HB9.out.trans (hB10.mono HB9.out.size)); clear hP10 hB10; rw [← HF.out]; obtain ⟨Z, hZ⟩ : ∃ Z, Z = pkF (ofG g).lo (ofG g).hi ud ut uc := ⟨_, rfl⟩; rw [← hZ]; have HZ := Lib.hid hZ; clear hZ)
    | (go_at_call 28; rw [HZ.out]; refine (encode_any w10 (ofG g) _ _ _ HP10.out HSK.out.bd HSK.out.bc HSK.out.code (by have := HSK.out.tabs; omega)).mono ?_; rintro e w11 ⟨hB11, v, rfl, hv⟩; rw [← HZ.out, HEN.out]; rw [HEN.out, if_pos rfl] at hv; have HA11 := Lib.hid (HA10.out.up hB11); have HB11 := Lib.hid (HB10.out.trans (hB11.mono HB10.out.size)); obtain ⟨A, n, c, rfl, hm⟩ := own_full hv; have HM := Lib.hid hm; clear hB11 hv hm))
  have HY := Lib.hid (show Bytes (encW (ofG g)) from enc_bytes HSK.out.bd HSK.out.bc)
  have HDE := Lib.hid (decode_any w11 A n c (encW (ofG g)) HM.out HY.out (by have h1 := HM.out.len.out; have h2 := (encE_zero HEN.out).2; omega))
  rw [back HEN.out] at HDE
  clear HP10 HZ HB10 HA10 HA9 HB9 HK9 HF9
  go_upto_region 11 with (first
    | (go_at_call 26; refine HDE.out.mono ?_; rintro e w12 ⟨hB12, jd, jt, jc, rfl, hd, hT, hc⟩; have HA12 := Lib.hid (HA11.out.up hB12); have HB12 := Lib.hid (HB11.out.trans (hB12.mono HB11.out.size)); have HK12 := Lib.hid (show PkAt w12 jd jt jc (ofG g) from pkAt_of hd hT hc); have HO1 := Lib.hid (pkF_one (lo := (ofG g).lo) (hi := (ofG g).hi) (ownB_one hd) (ownT_form hT) (ownB_one hc)); clear hB12 hd hT hc; obtain ⟨E, hE⟩ : ∃ F, F = pkF (ofG g).lo (ofG g).hi jd jt jc := ⟨_, rfl⟩; rw [← hE]; rw [← hE] at HO1; have HE2 := Lib.hid hE; clear hE)
    | (refine wpList_alloc_seg rfl 25 rfl 5 zeroPkF zeroPk ?_; intro w13 h13 hB13 hs13)
    | (refine wpList_store_all rfl 25 _ _ rfl w12.heap.size 25 5 _ E rfl rfl h13 sizePk HO1.out ?_; intro w14 h14 hT14 hs14))
  obtain ⟨gq, hgq⟩ : ∃ g, g = w12.heap.size := ⟨_, rfl⟩
  have hb14 : Below w12.heap.size w12 w14 := hB13.trans (hT14.below (Nat.le_refl _) hB13.size)
  rw [← hgq] at h14 ⊢
  have HB14 := Lib.hid (HB12.out.trans (hb14.mono HB12.out.size))
  have HF14 := Lib.hid h14
  have HA14 := Lib.hid (HA12.out.up hb14)
  have HK14 := Lib.hid (HK12.out.up hb14)
  clear h13 hB13 hs13 h14 hT14 hs14 hb14 hgq HO1 HDE HY HM HA11 HB11 HA12 HB12 HK12
  have HPG := Lib.hid (program_any w14 (ofG g) _ _ _ HK14.out HSK.out (HT.out.below HB14.out))
  rw [HPR.out] at HPG
  go_upto_region 12 with (first
    | (refine wpList_load_all rfl 25 _ rfl gq rfl 25 5 E _ HF14.out Tryd.underlying25 rfl sizePk ?_)
    | (go_at_call 11; rw [HE2.out]; refine HPG.out.mono ?_; rintro e w15 ⟨hB15, hR⟩; obtain ⟨jd, jt, jc, rfl, hd, hT, hc⟩ := hR.yes rfl; rw [← HE2.out]; have HA15 := Lib.hid (HA14.out.up hB15); have HB15 := Lib.hid (HB14.out.trans (hB15.mono HB14.out.size)); have HK15 := Lib.hid (show PgAt w15 jd jt jc g from pgAt_of hd hT hc); have HO1 := Lib.hid (pkF_one (lo := g.lo) (hi := g.hi) (ownB_one hd) (ownT_form hT) (ownR_one hc)); clear hB15 hd hT hc hR; obtain ⟨J, hJ⟩ : ∃ F, F = pkF g.lo g.hi jd jt jc := ⟨_, rfl⟩; rw [← hJ]; rw [← hJ] at HO1; have HJ := Lib.hid hJ; clear hJ)
    | (refine wpList_alloc_seg rfl 33 rfl 5 zeroPkF zeroPg ?_; intro w16 h16 hB16 hs16)
    | (refine wpList_store_all rfl 33 _ _ rfl w15.heap.size 33 5 _ J rfl rfl h16 sizePg HO1.out ?_; intro w17 h17 hT17 hs17))
  obtain ⟨gq2, hgq⟩ : ∃ g, g = w15.heap.size := ⟨_, rfl⟩
  have hb17 : Below w15.heap.size w15 w17 := hB16.trans (hT17.below (Nat.le_refl _) hB16.size)
  rw [← hgq] at h17 ⊢
  have HB17 := Lib.hid (HB15.out.trans (hb17.mono HB15.out.size))
  have HF17 := Lib.hid h17
  have HA17 := Lib.hid (HA15.out.up hb17)
  have HK17 := Lib.hid (HK15.out.up hb17)
  clear h16 hB16 hs16 h17 hT17 hs17 hb17 hgq HO1 HPG HA14 HB14 HK14 HF14 HA15 HB15 HK15
  have HSP := Lib.hid (sameProgram_any w17 g g _ _ _ _ _ _ HK17.out (HP.out.up HB17.out) HS.out.bd HS.out.bd (by have := HLN.out; omega) (by have := HS.out.tabs; omega) (by have := HS.out.tabs; omega))
  rw [samePg_self] at HSP
  go_wp2_with (first
    | (refine wpList_load_cells rfl 33 _ rfl gq2 0 rfl 5 J _ (fb_cells HF17.out) Tryd.underlying33 rfl sizePg ?_)
    | (refine wpList_load_cells rfl 33 _ rfl ga 0 rfl 5 X _ (fb_cells HA17.out) Tryd.underlying33 rfl sizePg ?_)
    | (go_at_call 17; rw [HX.out, HJ.out]; refine HSP.out.mono ?_; rintro e w18 ⟨rfl, hB18⟩))
  go_ret
  exact ⟨rfl, HB17.out.trans (hB18.mono HB17.out.size)⟩
end Go.Proofs.YtlodoinmippebaaDoor.Pak
