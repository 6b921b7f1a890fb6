/- Package pack: Decode. -/
import Derived.Test.YtkfcfoidaalnlaaPkR
namespace Go.Proofs.Ytkfcfoidaalnlaa.Pak
open Go.ChangeShapes Go.WideShapes Go.ChangeAt Go.RowKit
set_option linter.unusedVariables false
set_option linter.unusedSimpArgs false
set_option maxRecDepth 100000
abbrev zeroPkF : Nat → Value := pkF 0 0 (.slice none 0 0) (.slice none 0 0) (.slice none 0 0)
theorem zeroPk : (Try.prog.info? 25).bind (fun i => i.zero.map Value.cells) = some (arr 5 zeroPkF) := by kernel_rfl
def DecRes (w w' : World) (r : Except Fl Pk) (e : Ending) : Prop := match r with
  | .ok k => ∃ vd vt vc, e = .returned (.tuple #[.agg (arr 5 (pkF k.lo k.hi vd vt vc)), .int .i64 0, .int .i64 0]) ∧ OwnB w' w.heap.size vd k.data ∧ OwnR 60 2 tabF w' w.heap.size vt k.tabs ∧ OwnB w' w.heap.size vc k.code
  | .error (a, er) => e = .returned (.tuple #[.agg (arr 5 zeroPkF), .int .i64 a, .int .i64 er])
/-- the same, and data and code lie apart -/
def DecRes2 (w w' : World) (r : Except Fl Pk) (e : Ending) : Prop := match r with
  | .ok k => ∃ vd vt vc, e = .returned (.tuple #[.agg (arr 5 (pkF k.lo k.hi vd vt vc)), .int .i64 0, .int .i64 0]) ∧ OwnB w' w.heap.size vd k.data ∧ OwnR 60 2 tabF w' w.heap.size vt k.tabs ∧ OwnB w' w.heap.size vc k.code ∧ ∀ b, vd.ownBlock = some b → vc.ownBlock ≠ some b
  | .error (a, er) => e = .returned (.tuple #[.agg (arr 5 zeroPkF), .int .i64 a, .int .i64 er])
theorem DecRes2.less {w w' : World} {r : Except Fl Pk} {e : Ending} (h : DecRes2 w w' r e) : DecRes w w' r e := by
  cases r with
  | error x => exact h
  | ok k =>
    obtain ⟨vd, vt, vc, h1, h2, h3, h4, -⟩ := h
    exact ⟨vd, vt, vc, h1, h2, h3, h4⟩
structure DecS (w : World) (gk gt : Nat) (a er : Int) (W : World) : Prop where
  pk : ∃ f, FB W gk 25 5 f
  flt : FB W gt 67 2 (ftF a er)
  below : Below w.heap.size w W
  ne : gk ≠ gt ∧ w.heap.size ≤ gk
theorem DecS.drewN {w : World} {gk gt : Nat} {a er : Int} {W : World} (h : DecS w gk gt a er W) (m : Nat) : DecS w gk gt a er (W.drewN m) := ⟨h.pk.imp fun _ h1 => h1.drewN m, h.flt.drewN m, below_drewN h.below m, h.ne⟩
theorem pkF_one {lo hi : Int} {vd vt vc : Value} (h2 : vd.oneCell' = true) (h3 : vt.oneCell' = true) (h4 : vc.oneCell' = true) : ∀ q, q < 5 → (pkF lo hi vd vt vc q).oneCell' = true := fun q hq => by
  rcases (show q = 0 ∨ q = 1 ∨ q = 2 ∨ q = 3 ∨ q = 4 by omega) with rfl | rfl | rfl | rfl | rfl
  · rfl
  · rfl
  · exact h2
  · exact h3
  · exact h4
theorem IntoRes.nz {n gk base : Nat} {r : Except Fl Pk} {e : Ending} {w : World} (h : IntoRes n gk base r e w) {fa fe : Int} (he : e = .returned (.agg (arr 2 (ftF fa fe)))) : (∃ lf er, r = .error (lf, er) ∧ fa = (n - lf : Nat) ∧ fe = er ∧ ∃ f, FB w gk 25 5 f) ∨ (∃ k, r = .ok k ∧ fa = 0 ∧ fe = 0 ∧ ∃ vd vt vc, PkB w gk base k vd vt vc) := by
  subst he
  unfold IntoRes at h
  cases r with
  | error x =>
    obtain ⟨lf, er⟩ := x
    obtain ⟨h1, h2⟩ := h
    obtain ⟨e1, e2⟩ := ft_inj h1
    exact .inl ⟨lf, er, rfl, e1, e2, h2⟩
  | ok k =>
    obtain ⟨h1, h2⟩ := h
    obtain ⟨e1, e2⟩ := ft_inj h1
    exact .inr ⟨k, rfl, e1, e2, h2⟩
theorem ownT_form {w : World} {base : Nat} {v : Value} {l : List (Int × Int)} (h : OwnR 60 2 tabF w base v l) : v.oneCell' = true := by
  obtain ⟨A, m, c, e, _⟩ := h.form
  rw [e]; rfl
theorem ownB_one {w : World} {base : Nat} {v : Value} {L : List Int} (h : OwnB w base v L) : v.oneCell' = true := by
  obtain ⟨A, c, e, _⟩ := h.form
  rw [e]; rfl
abbrev rdF0 : Nat → Value
  | 0 => .slice none 0 0
  | 1 => .int .i64 0
  | _ => .int .i64 0
theorem zeroRd : (Try.prog.info? 71).bind (fun i => i.zero.map Value.cells) = some (arr 3 rdF0) := by kernel_rfl
theorem sizeRd : (Try.prog.info? 71).map (·.size) = some 3 := by kernel_rfl
theorem rdF_one (A : Option Addr) (n : Nat) (p last : Int) : ∀ q, q < 3 → (rdF A n p last q).oneCell' = true := fun q hq => by
  rcases (show q = 0 ∨ q = 1 ∨ q = 2 by omega) with rfl | rfl | rfl <;> rfl
theorem bet_none {L : List Int} (h : betE L = none) : 8 ≤ L.length ∧ L.length ≤ 131072 := by
  unfold betE at h
  by_cases h1 : 131072 < L.length
  · rw [if_pos h1] at h; cases h
  rw [if_neg h1] at h
  by_cases h2 : L.length < 8
  · rw [if_pos h2] at h; cases h
  omega
set_option maxHeartbeats 8000000 in
theorem decode2_any (w : World) (A : Option Addr) (n c : Nat) (L : List Int) (hS : Sl w A n c L) (hY : Bytes L) (hn : n ≤ 1152921504606846976) :
    Calls Try.prog 20 #[.slice A n c] w fun e w' => Below w.heap.size w w' ∧ DecRes2 w w' (decP L) e := by
  obtain ⟨r, hr⟩ : ∃ r, r = decP L := ⟨_, rfl⟩
  rw [← hr]
  have HR := Lib.hid (show r = (match betE L with
    | some e => .error e
    | none => match packR 0 Pk.none ((L.take (L.length - 4)).drop 4) with
      | .ok k => .ok k
      | .error (lf, er) => .error (L.length - 4 - lf, er)) from hr.trans (decP_bet L))
  have HS := Lib.hid hS
  have HY := Lib.hid hY
  clear hr hS hY
  go_enter Try.func20, Try.ntmps20
  go_upto_region 1 with (refine wpList_alloc_seg rfl 25 rfl 5 zeroPkF zeroPk ?_; intro w1 h1 hB1 hs1)
  obtain ⟨gk, hgk⟩ : ∃ gk, gk = w.heap.size := ⟨_, rfl⟩
  rw [← hgk] at h1 ⊢
  have HK1 := Lib.hid h1
  have HB1 := Lib.hid hB1
  have HGK := Lib.hid (show w.heap.size ≤ gk ∧ gk < w1.heap.size ∧ gk = w.heap.size by omega)
  clear h1 hB1 hs1 hgk
  have HBT := Lib.hid (between_any w1 A n c L (HS.out.up HB1.out) HY.out hn)
  cases hb : betE L with
  | some x =>
    obtain ⟨a, er⟩ := x
    rw [hb] at HBT HR
    have HRE := Lib.hid (show r = .error (a, er) from HR.out)
    have hnz : er ≠ 0 := (decP_err HY.out (show decP L = .error (a, er) by rw [decP_bet, hb])).1
    have tn : (er != 0) = true := by rw [bne_iff_ne]; exact hnz
    clear hb hnz HR
    go_upto_region 2 with (first
      | (go_at_call 33; refine HBT.out.mono ?_; rintro e w2 ⟨hB2, rfl⟩)
      | (refine wpList_alloc_seg rfl 67 rfl 2 (ftF 0 0) zeroFt ?_; intro w3 h3 hB3 hs3)
      | (refine wpList_store_all rfl 67 _ _ rfl w2.heap.size 67 2 _ (ftF (a) (er)) rfl rfl h3 sizeFt (ftF_one _ _) ?_; intro w4 h4 hT4 hs4))
    obtain ⟨gt, hgt⟩ : ∃ gt, gt = w2.heap.size := ⟨_, rfl⟩
    have hb4 : Below w2.heap.size w2 w4 := hB3.trans (hT4.below (Nat.le_refl _) hB3.size)
    have hb24 : Below w1.heap.size w1 w4 := hB2.trans (hb4.mono hB2.size)
    rw [← hgt] at h4 ⊢
    have HNE := Lib.hid (show gk ≠ gt ∧ w.heap.size ≤ gk ∧ w.heap.size ≤ gt by have := hB2.size; have := HGK.out; exact ⟨by omega, by omega, by omega⟩)
    have HK4 := Lib.hid (HK1.out.up hb24)
    have HB4 := Lib.hid (HB1.out.trans (hb24.mono HB1.out.size))
    have HF4 := Lib.hid h4
    have HS4 := Lib.hid (HS.out.up (HB4.out))
    have y1 : w4.cell? ⟨gt, 1, none⟩ = some (.int .i64 (er)) := h4.cell 1 (by decide)
    have HZ4 := Lib.hid (show w.heap.size ≤ w4.heap.size from HB4.out.size)
    clear h3 hB3 hs3 h4 hT4 hs4 hgt hb4 hb24 hB2 HK1 HB1 HBT
    go_upto_region 3 with fail
    refine wp_region_held_drew (S := fun W => DecS w gk gt (a) (er) W) (by kernel_rfl) ((show DecS w gk gt (a) (er) w4 from ⟨⟨_, HK4.out⟩, HF4.out, HB4.out, ⟨HNE.out.1, HNE.out.2.1⟩⟩).drewN 1) (fun hHeld => ?_)
    refine wpAnyH_take (i := 0) (oi := { dst := some 16, op := Op.build 25 #[], type := 25, pos := "pack.go:26", after := #[], guard := none }) (v := .agg #[.int .i64 0, .int .i64 0, .slice none 0 0, .slice none 0 0, .slice none 0 0]) rfl (by kernel_rfl) (by kernel_rfl) (by kernel_rfl) (fun _ _ _ h => h) (Or.inl ⟨by rfl, ?_⟩) (by assumption) ?_
    · intro w hSw
      go_simp
    try simp only [Act.put, List.setIfInBounds_toArray, List.set_cons_zero, List.set_cons_succ]
    refine wpAnyH_take (i := 1) (oi := { dst := some 17, op := Op.fieldAddr 67 (Operand.tmp 6) 0, type := 0, pos := "pack.go:26", after := #[{ on := 5, ground := Ground.gcOnly Departure.lateStores }], guard := none }) (v := .pointer (some ⟨gt, 0, none⟩)) rfl (by kernel_rfl) (by kernel_rfl) (by kernel_rfl) (fun _ _ _ h => h) (Or.inl ⟨by rfl, ?_⟩) (by assumption) ?_
    · intro w hSw
      go_simp
    try simp only [Act.put, List.setIfInBounds_toArray, List.set_cons_zero, List.set_cons_succ]
    refine wpAnyH_take (i := 2) (oi := { dst := some 18, op := Op.load 3 (Operand.tmp 17), type := 3, pos := "pack.go:26", after := #[{ on := 1, ground := Ground.data }, { on := 5, ground := Ground.gcOnly Departure.lateStores }], guard := none }) (v := .int .i64 (a)) rfl (by kernel_rfl) (by kernel_rfl) (by kernel_rfl) (fun _ _ _ h => h) (Or.inl ⟨by rfl, ?_⟩) (by assumption) ?_
    · intro w hSw
      have q0 : w.cell? ⟨gt, 0, none⟩ = some (.int .i64 (a)) := hSw.flt.cell 0 (by decide)
      go_simp
    try simp only [Act.put, List.setIfInBounds_toArray, List.set_cons_zero, List.set_cons_succ]
    refine wpAnyH_take (i := 3) (oi := { dst := some 19, op := Op.fieldAddr 67 (Operand.tmp 6) 1, type := 0, pos := "pack.go:26", after := #[{ on := 6, ground := Ground.gcOnly Departure.lateStores }], guard := none }) (v := .pointer (some ⟨gt, 1, none⟩)) rfl (by kernel_rfl) (by kernel_rfl) (by kernel_rfl) (fun _ _ _ h => h) (Or.inl ⟨by rfl, ?_⟩) (by assumption) ?_
    · intro w hSw
      go_simp
    try simp only [Act.put, List.setIfInBounds_toArray, List.set_cons_zero, List.set_cons_succ]
    refine wpAnyH_take (i := 4) (oi := { dst := some 20, op := Op.load 36 (Operand.tmp 19), type := 36, pos := "pack.go:26", after := #[{ on := 3, ground := Ground.data }, { on := 6, ground := Ground.gcOnly Departure.lateStores }], guard := none }) (v := .int .i64 (er)) rfl (by kernel_rfl) (by kernel_rfl) (by kernel_rfl) (fun _ _ _ h => h) (Or.inl ⟨by rfl, ?_⟩) (by assumption) ?_
    · intro w hSw
      have q0 : w.cell? ⟨gt, 1, none⟩ = some (.int .i64 (er)) := hSw.flt.cell 1 (by decide)
      go_simp
    try simp only [Act.put, List.setIfInBounds_toArray, List.set_cons_zero, List.set_cons_succ]
    refine wpAnyH_ready (rs := [5]) (by kernel_rfl) (by simp) ?_
    refine AllReadyH.cons (o := { dst := none, op := Op.store 25 (Operand.tmp 2) (Operand.tmp 16), type := 0, pos := "pack.go:26", after := #[{ on := 0, ground := Ground.data }, { on := 0, ground := Ground.phase }, { on := 1, ground := Ground.textOnly Departure.lateStores }, { on := 2, ground := Ground.textOnly Departure.lateStores }, { on := 3, ground := Ground.textOnly Departure.lateStores }, { on := 4, ground := Ground.textOnly Departure.lateStores }], guard := none }) rfl ?_ ?_
    rotate_left
    · exact AllReadyH.nil
    intro K hK
    obtain ⟨fo, hfo⟩ := hHeld.pk
    refine step_store_seg (by rfl) 25 _ _ rfl gk 0 25 5 5 fo zeroPkF rfl rfl hfo (by omega) sizePk (pkF_one rfl rfl rfl) ?_
    intro w6 h6 hT6 hs6
    have H6 := Lib.hid (show FB w6 gk 25 5 zeroPkF from h6.congr fun q hq => by unfold updR; rw [if_pos (by omega), Nat.sub_zero])
    have HS6 := Lib.hid (show DecS w gk gt (a) (er) w6 from ⟨⟨_, H6.out⟩, hHeld.flt.touch hT6 (fun e => hHeld.ne.1 e.symm), hHeld.below.trans (hT6.below hHeld.ne.2 hHeld.below.size), hHeld.ne⟩)
    clear h6 hT6 hs6 hHeld hfo
    refine hK.out _ _ HS6.out (fun hHeld => ?_)
    clear hK K
    try simp only [Act.put, List.setIfInBounds_toArray, List.set_cons_zero, List.set_cons_succ]
    refine wpAnyH_take (i := 6) (oi := { dst := some 3, op := Op.assign (Operand.tmp 18), type := 3, pos := "pack.go:26", after := #[{ on := 2, ground := Ground.data }, { on := 5, ground := Ground.chain }, { on := 0, ground := Ground.phase }, { on := 1, ground := Ground.phase }, { on := 2, ground := Ground.phase }, { on := 3, ground := Ground.textOnly Departure.lateStores }, { on := 4, ground := Ground.textOnly Departure.lateStores }, { on := 5, ground := Ground.phase }], guard := none }) (v := .int .i64 (a)) rfl (by kernel_rfl) (by kernel_rfl) (by kernel_rfl) (fun _ _ _ h => h) (Or.inl ⟨by rfl, ?_⟩) (by assumption) ?_
    · intro w hSw
      go_simp
    try simp only [Act.put, List.setIfInBounds_toArray, List.set_cons_zero, List.set_cons_succ]
    refine wpAnyH_take (i := 7) (oi := { dst := some 4, op := Op.assign (Operand.tmp 20), type := 36, pos := "pack.go:26", after := #[{ on := 4, ground := Ground.data }, { on := 6, ground := Ground.chain }, { on := 0, ground := Ground.phase }, { on := 1, ground := Ground.phase }, { on := 2, ground := Ground.phase }, { on := 3, ground := Ground.phase }, { on := 4, ground := Ground.phase }, { on := 5, ground := Ground.phase }, { on := 6, ground := Ground.phase }], guard := none }) (v := .int .i64 (er)) rfl (by kernel_rfl) (by kernel_rfl) (by kernel_rfl) (fun _ _ _ h => h) (Or.inl ⟨by rfl, ?_⟩) (by assumption) ?_
    · intro w hSw
      go_simp
    try simp only [Act.put, List.setIfInBounds_toArray, List.set_cons_zero, List.set_cons_succ]
    clear hHeld
    refine wpAnyH_done (by kernel_rfl) ?_ _
    go_wp2_with fail
    refine bodyPost_ret (result_ctt rfl _ _ _ _ gk _ 5 _ _ rfl H6.out Try.underlying25 rfl sizePk rfl rfl) rfl ⟨HS6.out.below, ?_⟩
    rw [HRE.out]
    exact rfl
  | none =>
    rw [hb] at HBT HR
    have HRE := Lib.hid (show r = (match packR 0 Pk.none ((L.take (L.length - 4)).drop 4) with
      | .ok k => .ok k
      | .error (lf, er) => .error (L.length - 4 - lf, er)) from HR.out)
    obtain ⟨hl8, hlb⟩ := bet_none hb
    rw [HS.out.len.out] at hl8 hlb
    clear hb HR
    go_upto_region 2 with (first
      | (go_at_call 33; refine HBT.out.mono ?_; rintro e w2 ⟨hB2, rfl⟩)
      | (refine wpList_alloc_seg rfl 67 rfl 2 (ftF 0 0) zeroFt ?_; intro w3 h3 hB3 hs3)
      | (refine wpList_store_all rfl 67 _ _ rfl w2.heap.size 67 2 _ (ftF (0) (0)) rfl rfl h3 sizeFt (ftF_one _ _) ?_; intro w4 h4 hT4 hs4))
    obtain ⟨gt, hgt⟩ : ∃ gt, gt = w2.heap.size := ⟨_, rfl⟩
    have hb4 : Below w2.heap.size w2 w4 := hB3.trans (hT4.below (Nat.le_refl _) hB3.size)
    have hb24 : Below w1.heap.size w1 w4 := hB2.trans (hb4.mono hB2.size)
    rw [← hgt] at h4 ⊢
    have HNE := Lib.hid (show gk ≠ gt ∧ w.heap.size ≤ gk ∧ w.heap.size ≤ gt by have := hB2.size; have := HGK.out; exact ⟨by omega, by omega, by omega⟩)
    have HK4 := Lib.hid (HK1.out.up hb24)
    have HB4 := Lib.hid (HB1.out.trans (hb24.mono HB1.out.size))
    have HF4 := Lib.hid h4
    have HS4 := Lib.hid (HS.out.up (HB4.out))
    have y1 : w4.cell? ⟨gt, 1, none⟩ = some (.int .i64 (0)) := h4.cell 1 (by decide)
    have HZ4 := Lib.hid (show w.heap.size ≤ w4.heap.size from HB4.out.size)
    clear h3 hB3 hs3 h4 hT4 hs4 hgt hb4 hb24 hB2 HK1 HB1 HBT
    obtain ⟨q, hq⟩ : ∃ q : Nat, q = n - 4 := ⟨_, rfl⟩
    obtain ⟨b, off, hA, hbl, hcell⟩ := HS.out.byt (by rw [HS.out.len.out]; omega)
    subst hA
    rw [← hq]
    obtain ⟨B, hB⟩ : ∃ B, B = L.take (L.length - 4) := ⟨_, rfl⟩
    rw [← hB] at HRE
    have HBL := Lib.hid (show B.length = q by rw [hB, List.length_take, HS.out.len.out]; omega)
    have HBY := Lib.hid (show Bytes B by rw [hB]; exact HY.out.take _)
    have HBA := Lib.hid (show BytesAt w4 (some ⟨b, off, none⟩) B by rw [hB]; exact bytes_front HS4.out.byt _)
    have hq4 : 4 ≤ q ∧ q ≤ 131072 := by omega
    have HQ := Lib.hid (show L.length - 4 = q by rw [HS.out.len.out]; omega)
    clear hcell hB hq hl8 hlb
    go_upto_region 5 with (first
      | (refine wpList_alloc_seg rfl 71 rfl 3 (rdF0) zeroRd ?_; intro w5 h5 hB5 hs5)
      | (refine wpList_store_all rfl 71 _ _ rfl w4.heap.size 71 3 _ (rdF (some ⟨b, off, none⟩) q (4 : Nat) 0) rfl rfl h5 sizeRd (rdF_one _ _ _ _) ?_; intro w6 h6 hT6 hs6))
    obtain ⟨g, hg⟩ : ∃ g, g = w4.heap.size := ⟨_, rfl⟩
    have hb6 : Below w4.heap.size w4 w6 := hB5.trans (hT6.below (Nat.le_refl _) hB5.size)
    rw [← hg] at h6 ⊢
    have HK6 := Lib.hid (HK4.out.up hb6)
    have HF6 := Lib.hid (HF4.out.up hb6)
    have HB6 := Lib.hid (HB4.out.trans (hb6.mono HB4.out.size))
    have HSZ6 := Lib.hid (show w.heap.size ≤ w6.heap.size from HB6.out.size)
    have HGN := Lib.hid (show g ≠ gk ∧ g ≠ gt ∧ w.heap.size ≤ g by have h1 := HK4.out.lt; have h2 := HF4.out.lt; have h3 := HB4.out.size; exact ⟨by omega, by omega, by omega⟩)
    have HPM := Lib.hid (packM_any w6 g gk w.heap.size b off q 4 0 Pk.none (.slice none 0 0) (.slice none 0 0) (.slice none 0 0) B h6 ⟨HK6.out, OwnB.nil _ _, OwnR.nil _ _ _ _ _, OwnB.nil _ _, fun b hb => by cases hb⟩ HBL.out (by omega) (by omega) HBY.out (HBA.out.below hb6) (Int.le_refl _) ⟨HGN.out.1, by have := HGN.out.2.2; omega, by have := HNE.out; omega, HGN.out.2.2, HNE.out.2.1⟩ (Nat.lt_of_lt_of_le hbl HSZ6.out) HSZ6.out)
    clear h5 hB5 hs5 h6 hT6 hs6 hg hb6 HK4 HF4 HB4 HS4 HZ4 y1 HBA
    have HFL6 := Lib.hid HF6.out.lt
    go_upto_region 6 with (first
      | (go_at_call 34; refine HPM.out.mono ?_; rintro e w7 ⟨hB7, hfar, hI⟩; obtain ⟨fa, fe, rfl⟩ := hI.form; have hF7 : FB w7 gt 67 2 (ftF 0 0) := (hfar gt HFL6.out (fun e => HGN.out.2.1 e.symm) (fun e => HNE.out.1 e.symm)).trans HF6.out)
      | (refine wpList_store_all rfl 67 _ _ rfl gt 67 2 _ (ftF fa fe) rfl rfl hF7 sizeFt (ftF_one _ _) ?_; intro w8 h8 hT8 hs8))
    have HF8 := Lib.hid h8
    have HB7 := Lib.hid (HB6.out.trans hB7)
    have HB8 := Lib.hid (HB7.out.trans (hT8.below HNE.out.2.2 HB7.out.size))
    have y1 : w8.cell? ⟨gt, 1, none⟩ = some (.int .i64 fe) := h8.cell 1 (by decide)
    rcases hI.nz rfl with ⟨lf, er, hr2, hfa, hfe, f7, hf7⟩ | ⟨k, hr2, hfa, hfe, vd, vt, vc, hk7⟩
    · have HRR := Lib.hid (show r = .error (q - lf, er) by rw [HRE.out, hr2, HQ.out])
      have hnz : er ≠ 0 := (packR_err _ _ _ _ _ (Nat.le_refl _) (HBY.out.drop 4) hr2).1
      have tn : (fe != 0) = true := by rw [bne_iff_ne, hfe]; exact hnz
      have HK8 := Lib.hid (hf7.touch hT8 HNE.out.1)
      have HFA := Lib.hid hfa
      have HFE := Lib.hid hfe
      clear hI hr2 hfa hfe hnz h8 hT8 hs8 hB7 hfar hF7 hf7 HPM
      go_upto_region 7 with fail
      refine wp_region_held_drew (S := fun W => DecS w gk gt (fa) (fe) W) (by kernel_rfl) ((show DecS w gk gt (fa) (fe) w8 from ⟨⟨_, HK8.out⟩, HF8.out, HB8.out, ⟨HNE.out.1, HNE.out.2.1⟩⟩).drewN 1) (fun hHeld => ?_)
      refine wpAnyH_take (i := 0) (oi := { dst := some 27, op := Op.build 25 #[], type := 25, pos := "pack.go:30", after := #[], guard := none }) (v := .agg #[.int .i64 0, .int .i64 0, .slice none 0 0, .slice none 0 0, .slice none 0 0]) rfl (by kernel_rfl) (by kernel_rfl) (by kernel_rfl) (fun _ _ _ h => h) (Or.inl ⟨by rfl, ?_⟩) (by assumption) ?_
      · intro w hSw
        go_simp
      try simp only [Act.put, List.setIfInBounds_toArray, List.set_cons_zero, List.set_cons_succ]
      refine wpAnyH_take (i := 1) (oi := { dst := some 28, op := Op.fieldAddr 67 (Operand.tmp 6) 0, type := 0, pos := "pack.go:30", after := #[{ on := 5, ground := Ground.gcOnly Departure.lateStores }], guard := none }) (v := .pointer (some ⟨gt, 0, none⟩)) rfl (by kernel_rfl) (by kernel_rfl) (by kernel_rfl) (fun _ _ _ h => h) (Or.inl ⟨by rfl, ?_⟩) (by assumption) ?_
      · intro w hSw
        go_simp
      try simp only [Act.put, List.setIfInBounds_toArray, List.set_cons_zero, List.set_cons_succ]
      refine wpAnyH_take (i := 2) (oi := { dst := some 29, op := Op.load 3 (Operand.tmp 28), type := 3, pos := "pack.go:30", after := #[{ on := 1, ground := Ground.data }, { on := 5, ground := Ground.gcOnly Departure.lateStores }], guard := none }) (v := .int .i64 (fa)) rfl (by kernel_rfl) (by kernel_rfl) (by kernel_rfl) (fun _ _ _ h => h) (Or.inl ⟨by rfl, ?_⟩) (by assumption) ?_
      · intro w hSw
        have q0 : w.cell? ⟨gt, 0, none⟩ = some (.int .i64 (fa)) := hSw.flt.cell 0 (by decide)
        go_simp
      try simp only [Act.put, List.setIfInBounds_toArray, List.set_cons_zero, List.set_cons_succ]
      refine wpAnyH_take (i := 3) (oi := { dst := some 30, op := Op.fieldAddr 67 (Operand.tmp 6) 1, type := 0, pos := "pack.go:30", after := #[{ on := 6, ground := Ground.gcOnly Departure.lateStores }], guard := none }) (v := .pointer (some ⟨gt, 1, none⟩)) rfl (by kernel_rfl) (by kernel_rfl) (by kernel_rfl) (fun _ _ _ h => h) (Or.inl ⟨by rfl, ?_⟩) (by assumption) ?_
      · intro w hSw
        go_simp
      try simp only [Act.put, List.setIfInBounds_toArray, List.set_cons_zero, List.set_cons_succ]
      refine wpAnyH_take (i := 4) (oi := { dst := some 31, op := Op.load 36 (Operand.tmp 30), type := 36, pos := "pack.go:30", after := #[{ on := 3, ground := Ground.data }, { on := 6, ground := Ground.gcOnly Departure.lateStores }], guard := none }) (v := .int .i64 (fe)) rfl (by kernel_rfl) (by kernel_rfl) (by kernel_rfl) (fun _ _ _ h => h) (Or.inl ⟨by rfl, ?_⟩) (by assumption) ?_
      · intro w hSw
        have q0 : w.cell? ⟨gt, 1, none⟩ = some (.int .i64 (fe)) := hSw.flt.cell 1 (by decide)
        go_simp
      try simp only [Act.put, List.setIfInBounds_toArray, List.set_cons_zero, List.set_cons_succ]
      refine wpAnyH_ready (rs := [5]) (by kernel_rfl) (by simp) ?_
      refine AllReadyH.cons (o := { dst := none, op := Op.store 25 (Operand.tmp 2) (Operand.tmp 27), type := 0, pos := "pack.go:30", after := #[{ on := 0, ground := Ground.data }, { on := 0, ground := Ground.phase }, { on := 1, ground := Ground.textOnly Departure.lateStores }, { on := 2, ground := Ground.textOnly Departure.lateStores }, { on := 3, ground := Ground.textOnly Departure.lateStores }, { on := 4, ground := Ground.textOnly Departure.lateStores }], guard := none }) rfl ?_ ?_
      rotate_left
      · exact AllReadyH.nil
      intro K hK
      obtain ⟨fo, hfo⟩ := hHeld.pk
      refine step_store_seg (by rfl) 25 _ _ rfl gk 0 25 5 5 fo zeroPkF rfl rfl hfo (by omega) sizePk (pkF_one rfl rfl rfl) ?_
      intro w6 h6 hT6 hs6
      have H6 := Lib.hid (show FB w6 gk 25 5 zeroPkF from h6.congr fun q hq => by unfold updR; rw [if_pos (by omega), Nat.sub_zero])
      have HS6 := Lib.hid (show DecS w gk gt (fa) (fe) w6 from ⟨⟨_, H6.out⟩, hHeld.flt.touch hT6 (fun e => hHeld.ne.1 e.symm), hHeld.below.trans (hT6.below hHeld.ne.2 hHeld.below.size), hHeld.ne⟩)
      clear h6 hT6 hs6 hHeld hfo
      refine hK.out _ _ HS6.out (fun hHeld => ?_)
      clear hK K
      try simp only [Act.put, List.setIfInBounds_toArray, List.set_cons_zero, List.set_cons_succ]
      refine wpAnyH_take (i := 6) (oi := { dst := some 3, op := Op.assign (Operand.tmp 29), type := 3, pos := "pack.go:30", after := #[{ on := 2, ground := Ground.data }, { on := 5, ground := Ground.chain }, { on := 0, ground := Ground.phase }, { on := 1, ground := Ground.phase }, { on := 2, ground := Ground.phase }, { on := 3, ground := Ground.textOnly Departure.lateStores }, { on := 4, ground := Ground.textOnly Departure.lateStores }, { on := 5, ground := Ground.phase }], guard := none }) (v := .int .i64 (fa)) rfl (by kernel_rfl) (by kernel_rfl) (by kernel_rfl) (fun _ _ _ h => h) (Or.inl ⟨by rfl, ?_⟩) (by assumption) ?_
      · intro w hSw
        go_simp
      try simp only [Act.put, List.setIfInBounds_toArray, List.set_cons_zero, List.set_cons_succ]
      refine wpAnyH_take (i := 7) (oi := { dst := some 4, op := Op.assign (Operand.tmp 31), type := 36, pos := "pack.go:30", after := #[{ on := 4, ground := Ground.data }, { on := 6, ground := Ground.chain }, { on := 0, ground := Ground.phase }, { on := 1, ground := Ground.phase }, { on := 2, ground := Ground.phase }, { on := 3, ground := Ground.phase }, { on := 4, ground := Ground.phase }, { on := 5, ground := Ground.phase }, { on := 6, ground := Ground.phase }], guard := none }) (v := .int .i64 (fe)) rfl (by kernel_rfl) (by kernel_rfl) (by kernel_rfl) (fun _ _ _ h => h) (Or.inl ⟨by rfl, ?_⟩) (by assumption) ?_
      · intro w hSw
        go_simp
      try simp only [Act.put, List.setIfInBounds_toArray, List.set_cons_zero, List.set_cons_succ]
      clear hHeld
      refine wpAnyH_done (by kernel_rfl) ?_ _
      go_wp2_with fail
      refine bodyPost_ret (result_ctt rfl _ _ _ _ gk _ 5 _ _ rfl H6.out Try.underlying25 rfl sizePk rfl rfl) rfl ⟨HS6.out.below, ?_⟩
      rw [HRR.out, HFA.out, HFE.out]
      exact rfl
    · have HRR := Lib.hid (show r = .ok k by rw [HRE.out, hr2])
      have tn : (fe != 0) = false := by rw [hfe]; rfl
      have HK8 := Lib.hid (hk7.touch hT8 hF7 (by decide) (by decide) (by decide))
      clear hI hr2 hfa hfe h8 hT8 hs8 hB7 hfar hF7 hk7 HPM
      obtain ⟨F, hF⟩ : ∃ F, F = pkF k.lo k.hi vd vt vc := ⟨_, rfl⟩
      have HKB := Lib.hid (show FB w8 gk 25 5 F by rw [hF]; exact HK8.out.blk)
      have HF1 := Lib.hid (show ∀ p, p < 5 → (F p).oneCell' = true by rw [hF]; exact pkF_one (ownB_one HK8.out.data) (ownT_form HK8.out.tabs) (ownB_one HK8.out.code))
      have HFF := Lib.hid hF
      clear hF
      go_wp2_with (first
        | (refine wpList_load_all rfl 25 _ rfl gk rfl 25 5 F _ HKB.out Try.underlying25 rfl sizePk ?_)
        | (refine wpList_store_all rfl 25 _ _ rfl gk 25 5 _ F rfl rfl HKB.out sizePk HF1.out ?_; intro w9 h9 hT9 hs9))
      refine bodyPost_ret (result_ctt rfl _ _ _ _ gk _ 5 _ _ rfl h9 Try.underlying25 rfl sizePk rfl rfl) rfl ⟨HB8.out.trans (hT9.below HNE.out.2.1 HB8.out.size), ?_⟩
      rw [HRR.out]
      exact ⟨vd, vt, vc, by rw [HFF.out]; rfl, ownB_touch HK8.out.data hT9 HK8.out.blk (by decide), ownT_touch HK8.out.tabs hT9 HK8.out.blk (by decide), ownB_touch HK8.out.code hT9 HK8.out.blk (by decide), HK8.out.dc⟩
theorem decode_any (w : World) (A : Option Addr) (n c : Nat) (L : List Int) (hS : Sl w A n c L) (hY : Bytes L) (hn : n ≤ 1152921504606846976) :
    Calls Try.prog 20 #[.slice A n c] w fun e w' => Below w.heap.size w w' ∧ DecRes w w' (decP L) e :=
  (decode2_any w A n c L hS hY hn).mono fun e w' h => ⟨h.1, h.2.less⟩
end Go.Proofs.Ytkfcfoidaalnlaa.Pak
