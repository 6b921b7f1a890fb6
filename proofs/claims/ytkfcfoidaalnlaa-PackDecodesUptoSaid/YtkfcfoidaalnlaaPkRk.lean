/- Package pack: PackDecodes: one reading held against the document's. -/
import Derived.Test.YtkfcfoidaalnlaaPkRj
namespace Go.Proofs.Ytkfcfoidaalnlaa.Pak
open Go.ChangeShapes Go.WideShapes Go.ChangeAt Go.RowKit
open Ln
set_option linter.unusedVariables false
set_option linter.unusedSimpArgs false
set_option maxRecDepth 100000
/-- what Decode tells, in one form -/
def decA (L : List Int) : Pk × Int × Int := match decP L with
  | .ok k => (k, 0, 0)
  | .error (a, er) => (Pk.none, a, er)
theorem decA_small {L : List Int} (hY : Bytes L) : Bytes (decA L).1.data ∧ Bytes (decA L).1.code ∧ (decA L).1.data.length ≤ 1048576 ∧ (decA L).1.code.length ≤ 1048576 ∧ (decA L).1.tabs.length ≤ 8 := by
  unfold decA
  cases h : decP L with
  | error x => exact ⟨Bytes.nil, Bytes.nil, by simp [Pk.none], by simp [Pk.none], by simp [Pk.none]⟩
  | ok k =>
    obtain ⟨h1, h2, h3, h4⟩ := forth hY h
    obtain ⟨h5, h6⟩ := encE_zero h2
    obtain ⟨-, -, -, h7, -, h8⟩ := sizes_zero h5
    refine ⟨h3, h4, by show k.data.length ≤ _; omega, ?_, h7⟩
    show k.code.length ≤ _
    unfold encW bodyW at h6
    simp only [List.length_append, sec_len] at h6
    by_cases e : k.code = []
    · rw [e]; simp
    · rw [if_neg e] at h6; omega
theorem dec_uni {w w' : World} {L : List Int} {e : Ending} (h : DecRes2 w w' (decP L) e) : ∃ vd vt vc, e = .returned (.tuple #[.agg (arr 5 (pkF (decA L).1.lo (decA L).1.hi vd vt vc)), .int .i64 (decA L).2.1, .int .i64 (decA L).2.2]) ∧ OwnB w' w.heap.size vd (decA L).1.data ∧ OwnR 60 2 tabF w' w.heap.size vt (decA L).1.tabs ∧ OwnB w' w.heap.size vc (decA L).1.code ∧ ∀ b, vd.ownBlock = some b → vc.ownBlock ≠ some b := by
  unfold decA
  cases hd : decP L with
  | ok k => rw [hd] at h; exact h
  | error x =>
    rw [hd] at h
    obtain ⟨a, er⟩ := x
    exact ⟨.slice none 0 0, .slice none 0 0, .slice none 0 0, h, OwnB.nil _ _, OwnR.nil _ _ _ _ _, OwnB.nil _ _, fun b hb => by cases hb⟩
theorem dec_uni1 {w w' : World} {L : List Int} {e : Ending} (h : DecRes w w' (decP L) e) : ∃ vd vt vc, e = .returned (.tuple #[.agg (arr 5 (pkF (decA L).1.lo (decA L).1.hi vd vt vc)), .int .i64 (decA L).2.1, .int .i64 (decA L).2.2]) ∧ OwnB w' w.heap.size vd (decA L).1.data ∧ OwnR 60 2 tabF w' w.heap.size vt (decA L).1.tabs ∧ OwnB w' w.heap.size vc (decA L).1.code := by
  unfold decA
  cases hd : decP L with
  | ok k => rw [hd] at h; exact h
  | error x =>
    rw [hd] at h
    obtain ⟨a, er⟩ := x
    exact ⟨.slice none 0 0, .slice none 0 0, .slice none 0 0, h, OwnB.nil _ _, OwnR.nil _ _ _ _ _, OwnB.nil _ _⟩
theorem pkAt_own {w : World} {b1 b2 b3 : Nat} {vd vt vc : Value} {k : Pk} (h1 : OwnB w b1 vd k.data) (h2 : OwnR 60 2 tabF w b2 vt k.tabs) (h3 : OwnB w b3 vc k.code) : PkAt w vd vt vc k := by
  obtain ⟨A, n, c, e, hs⟩ := own_full h1
  obtain ⟨A3, n3, c3, e3, hs3⟩ := own_full h3
  obtain ⟨A6, m6, c6, e6, hm6, hc6, hr6, -⟩ := OwnR.form h2
  exact ⟨⟨A, n, c, e, hs⟩, ⟨A6, m6, c6, e6, ⟨Lib.hid hm6.out.symm, hc6, hr6⟩⟩, ⟨A3, n3, c3, e3, hs3⟩⟩
theorem samePk_self2 (k : Pk) : samePk k k = true := (samePk_iff k k).2 rfl
theorem fb_cells2 {w : World} {g : Nat} {t : TypeId} {n : Nat} {f : Nat → Value} (h : FB w g t n f) : ∀ k, k < n → w.cell? ⟨g, 0 + k, none⟩ = some (f k) := fun k hk => by rw [Nat.zero_add]; exact h.cell k hk
theorem sl_keep {w w' : World} {A : Option Addr} {n c : Nat} {L : List Int} (h : Sl w A n c L) (hs : w.heap.size ≤ w'.heap.size) (hk : ∀ b off, A = some ⟨b, off, none⟩ → w'.heap[b]? = w.heap[b]?) : Sl w' A n c L :=
  ⟨h.len, h.cap, fun hp => by
    obtain ⟨b, off, e, h1, h2⟩ := h.byt hp
    exact ⟨b, off, e, Nat.lt_of_lt_of_le h1 hs, fun i hi => (cell_same (hk b off e) _).trans (h2 i hi)⟩, fun b off e => Nat.lt_of_lt_of_le (h.lt b off e) hs⟩
theorem room_eq2 {w w' : World} {g r : Nat} {R : List Int} (h : Room w g (some r) R) (hg : w'.heap[g]? = w.heap[g]?) (hr : w'.heap[r]? = w.heap[r]?) : Room w' g (some r) R := by
  rcases h with ⟨h3, -, -⟩ | ⟨x, h3, h4, h5, h6⟩
  · cases h3
  · injection h3 with h3; subst h3; exact .inr ⟨r, rfl, h4, hr.trans h5, hg.trans h6⟩
theorem BkS.own_at {Z : Nat → Prop} {G T m : Nat} {w : World} (h : BkS Z G T m w) {v : Value} {L : List Int} {n base : Nat} (hv : OwnB w base v L) (hz : ∀ b, v.ownBlock = some b → Z b) (hn : L.length = n) (hL : n ≤ 1048576) (hT : T + n ≤ 1099511627776) (hm : m + 2 ≤ 1048576) :
    Calls Try.prog 15 #[.pointer (some ⟨G, 0, none⟩), v] w fun e w2 => e = .returned (.bool true) ∧
      BkS (fun b => Z b ∧ v.ownBlock ≠ some b) G (T + n) (m + 2) w2 ∧ Below 0 w w2 ∧ ∀ b, Z b → v.ownBlock ≠ some b → w2.heap[b]? = w.heap[b]? := by
  refine (Bk.own_at_ _ w G T m w h.use v L n (hv.mono (Nat.zero_le _)) hz hn hL hT hm).mono ?_
  rintro e w2 ⟨rfl, hu⟩
  obtain ⟨h0, h1⟩ := hu.below
  exact ⟨rfl, ⟨hu.far (Nat.le_refl _) fun _ _ _ => rfl⟩, h0, fun b hb hv => h1 b ⟨hb, hv⟩⟩
theorem BkS.mono2 {Z : Nat → Prop} {G T m T' m' : Nat} {w : World} (h : BkS Z G T m w) (hT : T ≤ T') (hm : m ≤ m') : BkS Z G T' m' w := by
  obtain ⟨cnt, tot, fv, wv, kv, fr, F, Ws, K, R, h1, h2, h3, h4, h5⟩ := h.use
  exact ⟨cnt, tot, fv, wv, kv, fr, F, Ws, K, R, h1, h2, by omega, by omega, by omega⟩
/-- what one reading leaves -/
structure DcEnd (Z : Nat → Prop) (g : Nat) (rb : Option Nat) (G T m : Nat) (w w' : World) : Prop where
  z0 : Below 0 w w'
  ex : ∃ (r' : Nat) (R' : List Int) (Z' : Nat → Prop), Room w' g (some r') R' ∧ R'.length ≤ 1099511627776 ∧ BkS Z' G T m w' ∧ Z' r' ∧ (some r' = rb ∨ w.heap.size ≤ r') ∧ ∀ b, b < w.heap.size → Z b → Z' b
  keep : ∀ b, b < w.heap.size → Z b → b ≠ g → rb ≠ some b → w'.heap[b]? = w.heap[b]?
set_option maxHeartbeats 8000000 in
theorem decodes_any (w : World) (A : Option Addr) (n c : Nat) (L : List Int) (hS : Sl w A n c L) (hY : Bytes L) (hn : n ≤ 1048576) (g G : Nat) (rb : Option Nat) (R : List Int) (Z : Nat → Prop) (T m : Nat) (hroom : Room w g rb R) (hR : R.length ≤ 1099511627776) (hb : BkS Z G T m w) (hzg : Z g) (hzr : ∀ r, rb = some r → Z r)
    (hA : ∀ b off, A = some ⟨b, off, none⟩ → b ≠ g ∧ rb ≠ some b) (hT : T + 2097152 ≤ 1099511627776) (hm : m + 4 ≤ 1048576) :
    Calls Try.prog 18 #[.slice A n c, .pointer (some ⟨g, 0, none⟩), .pointer (some ⟨G, 0, none⟩)] w fun e w' => e = .returned (.bool true) ∧ DcEnd Z g rb G (T + 2097152) (m + 4) w w' := by
  have HS := Lib.hid hS
  have HY := Lib.hid hY
  have HLN := Lib.hid hS.len.out
  have HRM := Lib.hid hroom
  have HBK := Lib.hid hb
  have HZ := Lib.hid (And.intro hzg (And.intro hzr hA))
  have HTM := Lib.hid (And.intro hT hm)
  have HGL := Lib.hid (show g < w.heap.size by obtain ⟨cs, h1⟩ := Room.blk hroom; exact h1.lt)
  obtain ⟨dq, hdq⟩ : ∃ d, d = decA L := ⟨_, rfl⟩
  obtain ⟨K, a, er⟩ := dq
  have HDQ := Lib.hid (show decA L = (K, a, er) from hdq.symm)
  have HKS := Lib.hid (show Bytes K.data ∧ Bytes K.code ∧ K.data.length ≤ 1048576 ∧ K.code.length ≤ 1048576 ∧ K.tabs.length ≤ 8 by have := decA_small hY; rw [← hdq] at this; exact this)
  clear hS hY hroom hb hzg hzr hA hT hm hdq
  go_enter Try.func18, Try.ntmps18
  go_upto_region 2 with (first
    | (go_at_call 6; refine (Ln.lend_any w g rb R HRM.out A n c L HLN.out hn hR HS.out.byt (fun _ b off e => (HZ.out.2.2 b off e).1) 0 (Nat.zero_le _) (fun _ _ => Nat.zero_le _)).mono ?_
       (rintro e w1 ⟨r1, D1, rfl, hL, hor, hmm, hk, hB⟩)
       (have HL1 := Lib.hid hL)
       (have HOR := Lib.hid hor)
       (have HK1 := Lib.hid hk)
       (have HB1 := Lib.hid hB)
       (obtain ⟨c1, hc1⟩ : ∃ z, z = L.length + (L.length + 70) + D1.length := ⟨_, rfl⟩)
       rw [← hc1] at hmm
       rw [← hc1, HLN.out]
       (have HC1 := Lib.hid (And.intro hc1.symm hmm))
       clear hL hor hmm hk hB hc1)
    | (go_at_call 20; refine (decode2_any w1 (some ⟨r1, 0, none⟩) n c1 L (by have h := Lent.sl HL1.out HLN.out; rw [HC1.out.1] at h; exact h) HY.out (by omega)).mono ?_
       (rintro e w2 ⟨hB2, hD2⟩)
       (obtain ⟨vd, vt, vc, rfl, hd, ht, hc, hap⟩ := dec_uni hD2)
       (obtain ⟨Ad, nd, cd, rfl, -⟩ := own_full hd)
       (obtain ⟨Ac, nc, cc, rfl, -⟩ := own_full hc)
       rw [HDQ.out] at hd ht hc ⊢
       (have HB2 := Lib.hid hB2)
       (have HO2 := Lib.hid (And.intro hd (And.intro ht (And.intro hc hap))))
       clear hB2 hD2 hd ht hc hap
       dsimp only
       (have HO1 := Lib.hid (pkF_one (lo := K.lo) (hi := K.hi) (ownB_one HO2.out.1) (ownT_form HO2.out.2.1) (ownB_one HO2.out.2.2.1)))
       (obtain ⟨F, hF⟩ : ∃ F, F = pkF K.lo K.hi (.slice Ad nd cd) vt (.slice Ac nc cc) := ⟨_, rfl⟩)
       rw [← hF] at HO1 ⊢
       (have HF := Lib.hid hF)
       clear hF)
    | (refine wpList_alloc_seg rfl 25 rfl 5 zeroPkF zeroPk ?_; intro w3 h3 hB3 hs3; clear hs3)
    | (refine wpList_store_all rfl 25 _ _ rfl w2.heap.size 25 5 _ F rfl rfl h3 sizePk HO1.out ?_; intro w4 h4 hT4 hs4; clear hs4))
  obtain ⟨g7, hg7⟩ : ∃ g, g = w2.heap.size := ⟨_, rfl⟩
  have hb24 : Below w2.heap.size w2 w4 := hB3.trans (hT4.below (Nat.le_refl _) hB3.size)
  have hb14 : Below w1.heap.size w1 w4 := HB2.out.trans (hb24.mono HB2.out.size)
  rw [← hg7] at h4 ⊢
  have H7 := Lib.hid h4
  have HB14 := Lib.hid hb14
  have HG7 := Lib.hid (show w.heap.size ≤ g7 ∧ w1.heap.size ≤ g7 from ⟨by have h1 := HB1.out.size; have h2 := HB2.out.size; omega, by have h2 := HB2.out.size; omega⟩)
  have HO4 := Lib.hid (And.intro (ownB_up HO2.out.1 hb24) (And.intro (HO2.out.2.1.up hb24) (ownB_up HO2.out.2.2.1 hb24)))
  have HAP := Lib.hid HO2.out.2.2.2
  have HR1Z := Lib.hid (show Z r1 ∨ w.heap.size ≤ r1 from by
    rcases HOR.out with h1 | h1
    · exact .inl (HZ.out.2.1 r1 h1.symm)
    · right; omega)
  have HKZ4 := Lib.hid (((KZ.refl Z w).keep2 HB1.out.size HK1.out HZ.out.1 HR1Z.out).up hb14)
  have HS4 := Lib.hid (show Sl w4 A n c L from sl_keep HS.out (Nat.le_trans HB1.out.size hb14.size) fun b off e => by
    have hbl := HS.out.lt b off e
    have h2 := HZ.out.2.2 b off e
    rw [hb14.block b (Nat.lt_of_lt_of_le hbl HB1.out.size)]
    refine HK1.out b hbl h2.1 fun e => ?_
    injection e with e
    subst e
    rcases HOR.out with h1 | h1
    · exact h2.2 h1.symm
    · omega)
  have HL4 := Lib.hid (Lent.up HL1.out hb14)
  have HLT := Lib.hid (show g < w1.heap.size ∧ r1 < w1.heap.size from ⟨HL1.out.2.2.lt, HL1.out.2.1.lt⟩)
  clear h3 hB3 h4 hT4 hb24 hb14 hg7 HO2 HO1 HB2 HL1
  go_upto_region 3 with (first
    | (go_at_call 17; refine (copyBytes_own w4 A n c L HS4.out (by omega)).mono ?_
       (rintro e w5 ⟨v5, rfl, hO5, hB5⟩)
       (obtain ⟨A5, c5, rfl, hs5, -⟩ := own_sl (w := w) hO5)
       rw [HLN.out] at hs5 ⊢
       (have HS5 := Lib.hid hs5)
       (have HB5 := Lib.hid hB5)
       clear hO5 hs5 hB5)
    | (go_at_call 32; refine (rdecode_any w5 A5 n c5 L HS5.out HY.out).mono ?_
       (rintro e w6 ⟨hB6, hD6⟩)
       (obtain ⟨ud, ut, uc, rfl, hd, ht, hc⟩ := dec_uni1 hD6)
       rw [HDQ.out] at hd ht hc ⊢
       (have HB6 := Lib.hid (HB5.out.trans (hB6.mono HB5.out.size)))
       (have HO6 := Lib.hid (And.intro (OwnB_base (base' := w4.heap.size) hd HB5.out.size) (And.intro (ownR_base (base' := w4.heap.size) ht HB5.out.size) (OwnB_base (base' := w4.heap.size) hc HB5.out.size))))
       clear hB6 hD6 hd ht hc
       dsimp only
       (have HO1 := Lib.hid (pkF_one (lo := K.lo) (hi := K.hi) (ownB_one HO6.out.1) (ownT_form HO6.out.2.1) (ownB_one HO6.out.2.2)))
       (obtain ⟨E, hE⟩ : ∃ F, F = pkF K.lo K.hi ud ut uc := ⟨_, rfl⟩)
       rw [← hE] at HO1 ⊢
       (have HE := Lib.hid hE)
       clear hE)
    | (refine wpList_alloc_seg rfl 25 rfl 5 zeroPkF zeroPk ?_; intro w7 h7 hB7 hs7; clear hs7)
    | (refine wpList_store_all rfl 25 _ _ rfl w6.heap.size 25 5 _ E rfl rfl h7 sizePk HO1.out ?_; intro w8 h8 hT8 hs8; clear hs8))
  obtain ⟨gE, hgE⟩ : ∃ g, g = w6.heap.size := ⟨_, rfl⟩
  have hb68 : Below w6.heap.size w6 w8 := hB7.trans (hT8.below (Nat.le_refl _) hB7.size)
  have hb48 : Below w4.heap.size w4 w8 := HB6.out.trans (hb68.mono HB6.out.size)
  rw [← hgE] at h8 ⊢
  have HE8 := Lib.hid h8
  have H78 := Lib.hid (H7.out.up hb48)
  have HB48 := Lib.hid hb48
  have HB18 := Lib.hid (HB14.out.trans (hb48.mono HB14.out.size))
  have HO8 := Lib.hid (And.intro (ownB_up HO4.out.1 hb48) (And.intro (HO4.out.2.1.up hb48) (ownB_up HO4.out.2.2 hb48)))
  have HP8 := Lib.hid (And.intro (ownB_up HO6.out.1 hb68) (And.intro (HO6.out.2.1.up hb68) (ownB_up HO6.out.2.2 hb68)))
  have HS8 := Lib.hid (HS4.out.up hb48)
  have HL8 := Lib.hid (Lent.up HL4.out hb48)
  have HKZ8 := Lib.hid (HKZ4.out.up hb48)
  have HW4 := Lib.hid (show w1.heap.size ≤ w4.heap.size from HB14.out.size)
  clear h7 hB7 h8 hT8 hb68 hb48 hgE HO4 HO6 HO1 HS4 HL4 HKZ4 H7 HB5 HB6 HS5
  go_wp2_with (first
    | (refine wpList_load_cells rfl 25 _ rfl g7 0 rfl 5 F _ (fb_cells2 H79.out) Try.underlying25 rfl sizePk ?_)
    | (refine wpList_load_cells rfl 25 _ rfl gE 0 rfl 5 E _ (fb_cells2 HE9.out) Try.underlying25 rfl sizePk ?_)
    | (go_at_call 12; refine (Ln.back_any w8 g r1 c1 L D1 HL8.out A n c HLN.out hn HC1.out.1 HC1.out.2 HS8.out.byt HY.out 0 (Nat.zero_le _)).mono ?_
       (rintro e w9 ⟨R1', hR1, hY1, hbk1, rfl, hroom1, hk1, hb1⟩)
       (have HR1 := Lib.hid hroom1)
       (have HR1L := Lib.hid hR1)
       (have HKB := Lib.hid hk1)
       (have HB9 := Lib.hid hb1)
       (have H79 := Lib.hid (show FB w9 g7 25 5 F from keep_blk hk1 H78.out (blk_ne H78.out HL8.out.2.2 (by decide)) (blk_ne H78.out HL8.out.2.1 (by decide))))
       (have HE9 := Lib.hid (show FB w9 gE 25 5 E from keep_blk hk1 HE8.out (blk_ne HE8.out HL8.out.2.2 (by decide)) (blk_ne HE8.out HL8.out.2.1 (by decide))))
       (have hg1 := HLT.out.1)
       (have hr1 := HLT.out.2)
       (have hw4 := HW4.out)
       (have HO9 := Lib.hid (show OwnB w9 w1.heap.size (.slice Ad nd cd) K.data ∧ OwnR 60 2 tabF w9 w1.heap.size vt K.tabs ∧ OwnB w9 w1.heap.size (.slice Ac nc cc) K.code from ⟨keep_rows hk1 HO8.out.1 hg1 hr1, keep_rows hk1 HO8.out.2.1 hg1 hr1, keep_rows hk1 HO8.out.2.2 hg1 hr1⟩))
       (have HP9 := Lib.hid (show OwnB w9 w4.heap.size ud K.data ∧ OwnR 60 2 tabF w9 w4.heap.size ut K.tabs ∧ OwnB w9 w4.heap.size uc K.code from ⟨keep_rows hk1 HP8.out.1 (by omega) (by omega), keep_rows hk1 HP8.out.2.1 (by omega) (by omega), keep_rows hk1 HP8.out.2.2 (by omega) (by omega)⟩))
       (have HKZ9 := Lib.hid (HKZ8.out.keep2 hb1.size hk1 HZ.out.1 HR1Z.out))
       clear hR1 hY1 hbk1 hroom1 hk1 hb1 hg1 hr1 hw4 H78 HE8 HO8 HP8 HKZ8 HL8
       (have HSK := Lib.hid (samePack_any w9 K K _ _ _ _ _ _ (pkAt_own HO9.out.1 HO9.out.2.1 HO9.out.2.2) (pkAt_own HP9.out.1 HP9.out.2.1 HP9.out.2.2) HKS.out.1 HKS.out.2.1 HKS.out.1 HKS.out.2.1 (by have := HKS.out.2.2.2.2; omega) (by have := HKS.out.2.2.2.2; omega)))
       rw [samePk_self2] at HSK)
    | (go_at_call 13; refine (num_errno _ _).mono ?_; rintro e u ⟨rfl, rfl⟩)
    | (go_at_call 11; rw [HF.out, HE.out]; refine HSK.out.mono ?_
       (rintro e w10 ⟨rfl, hB10⟩)
       rw [← HF.out, ← HE.out]
       (have HB10 := Lib.hid hB10)
       (have H710 := Lib.hid (H79.out.up hB10))
       (have HO10 := Lib.hid (And.intro (ownB_up HO9.out.1 hB10) (ownB_up HO9.out.2.2 hB10)))
       (have HKZ10 := Lib.hid (HKZ9.out.up hB10))
       (have HBG := Lib.hid (show BkS (fun b => Z b ∨ (w.heap.size ≤ b ∧ b < w10.heap.size)) G T m w10 from ⟨use_grow HBK.out.use HKZ10.out⟩))
       (have x2 : w10.cell? ⟨g7, 2, none⟩ = some (.slice Ad nd cd) := by rw [H710.out.cell 2 (by decide), HF.out]; rfl)
       (have HOW1 := Lib.hid (BkS.own_at (n := K.data.length) (v := .slice Ad nd cd) HBG.out HO10.out.1 (fun b hb => .inr (by have h1 := ownB_lt HO10.out.1 hb; have h2 := HB1.out.size; omega)) rfl HKS.out.2.2.1 (by have h1 := HKS.out.2.2.1; have h2 := HTM.out.1; omega) (by have h2 := HTM.out.2; omega)))
       clear hB10)
    | (go_at_call 15; refine HOW1.out.mono ?_
       (rintro e w11 ⟨rfl, hu1, h01, hk1⟩)
       (have HU1 := Lib.hid hu1)
       (have H01 := Lib.hid h01)
       (have HK11 := Lib.hid hk1)
       (have x4 : w11.cell? ⟨g7, 4, none⟩ = some (.slice Ac nc cc) := by
         have h1 := hk1 g7 (.inr ⟨HG7.out.1, H710.out.lt⟩) (fun e => by obtain ⟨cs, h2⟩ := ownB_blk HO10.out.1 e; exact blk_ne H710.out h2 (by decide) rfl)
         rw [(show FB w11 g7 25 5 F from h1.trans H710.out).cell 4 (by decide), HF.out]; rfl)
       (have HC11 := Lib.hid (show OwnB w11 w1.heap.size (.slice Ac nc cc) K.code from own_keep HO10.out.2 fun b hb hlt => hk1 b (.inr ⟨by have h1 := (ownB_lt HO10.out.2 hb).1; have h2 := HB1.out.size; omega, hlt⟩) (fun e => HAP.out b e hb)))
       (have HOW2 := Lib.hid (BkS.own_at (n := K.code.length) (v := .slice Ac nc cc) HU1.out HC11.out (fun b hb => ⟨.inr (by have h1 := ownB_lt HO10.out.2 hb; have h2 := HB1.out.size; omega), fun e => HAP.out b e hb⟩) rfl HKS.out.2.2.2.1 (by have h1 := HKS.out.2.2.1; have h3 := HKS.out.2.2.2.1; have h2 := HTM.out.1; omega) (by have h2 := HTM.out.2; omega)))
       clear hu1 h01 hk1 x2 HOW1)
    | (go_at_call 15; refine HOW2.out.mono ?_
       (rintro e w12 ⟨rfl, hu2, h02, hk2⟩)))
  go_ret
  refine ⟨rfl, ?_⟩
  have s1 := HB1.out.size
  have s8 := HB18.out.size
  have s9 := HB9.out.size
  have s10 := HB10.out.size
  have hgl := HGL.out
  have hne : ∀ b, b < w1.heap.size → (Value.slice Ad nd cd).ownBlock ≠ some b ∧ (Value.slice Ac nc cc).ownBlock ≠ some b := fun b hb => ⟨fun e => by have := (ownB_lt HO10.out.1 e).1; omega, fun e => by have := (ownB_lt HO10.out.2 e).1; omega⟩
  have hkp : ∀ b, b < w1.heap.size → (Z b ∨ (w.heap.size ≤ b ∧ b < w10.heap.size)) → w12.heap[b]? = w10.heap[b]? := fun b hb hz => (hk2 b ⟨hz, (hne b hb).1⟩ (hne b hb).2).trans (HK11.out b hz (hne b hb).1)
  have hr1 := HLT.out.2
  have zr1 : Z r1 ∨ (w.heap.size ≤ r1 ∧ r1 < w10.heap.size) := HR1Z.out.imp id fun h => ⟨h, by omega⟩
  refine ⟨((((HB1.out.trans (HB18.out.mono (Nat.zero_le _))).trans HB9.out).trans (HB10.out.mono (Nat.zero_le _))).trans H01.out).trans h02, ⟨r1, R1', _, room_eq2 (Room.up HR1.out HB10.out) (hkp g HLT.out.1 (.inl HZ.out.1)) (hkp r1 hr1 zr1), by rw [HR1L.out]; exact HC1.out.2, hu2.mono2 (by have h1 := HKS.out.2.2.1; have h3 := HKS.out.2.2.2.1; omega) (by omega), ⟨⟨zr1, (hne r1 hr1).1⟩, (hne r1 hr1).2⟩, HOR.out.imp id fun h => by omega, fun b hb hz => ⟨⟨.inl hz, (hne b (by omega)).1⟩, (hne b (by omega)).2⟩⟩, fun b hb hz hbg hbr => ?_⟩
  have hbr1 : some b ≠ some r1 := fun e => by
    injection e with e
    subst e
    rcases HOR.out with h1 | h1
    · exact hbr h1.symm
    · omega
  rw [hkp b (by omega) (.inl hz), HB10.out.block b (by omega), HKB.out b (by omega) hbg hbr1, HB18.out.block b (by omega), HK1.out b hb hbg hbr1]
end Go.Proofs.Ytkfcfoidaalnlaa.Pak
