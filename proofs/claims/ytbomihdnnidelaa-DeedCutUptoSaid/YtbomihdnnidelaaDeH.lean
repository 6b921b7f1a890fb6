/- Package deed: a claim's slots. -/
import Derived.Test.YtbomihdnnidelaaDeG
namespace Go.Proofs.Ytbomihdnnidelaa
open Go.ChangeShapes Go.WideShapes Go.ChangeAt Go.RowKit
open Dee
set_option linter.unusedVariables false
set_option linter.unusedSimpArgs false
set_option maxRecDepth 100000
/-- tags, one behind the other -/
def tsF (S : Nat → Tag) : Nat → Value := fun q => tgF (S (q / 3)) (q % 3)
def setS (S : Nat → Tag) (n : Nat) (t : Tag) : Nat → Tag := fun k => if k = n then t else S k
def stackOf (l : List Ent) : Nat → Tag := l.foldl (fun S e => setS S e.1.toNat e.2) (fun _ => Tag.zero)
theorem stackOf_app (l : List Ent) (e : Ent) : stackOf (l ++ [e]) = setS (stackOf l) e.1.toNat e.2 := by unfold stackOf; rw [List.foldl_append]; rfl
theorem tsF_one (S : Nat → Tag) (n : Nat) : ∀ q, q < n → (tsF S q).oneCell' = true := fun q _ => tgF_one _ _ (by omega)
theorem tsF_set (S : Nat → Tag) (n : Nat) (t : Tag) (q : Nat) : updR (tsF S) (n * 3) 3 (tgF t) q = tsF (setS S n t) q := by
  unfold updR tsF setS
  by_cases h : n * 3 ≤ q ∧ q < n * 3 + 3
  · rw [if_pos h, if_pos (by omega), show q - n * 3 = q % 3 by omega]
  · rw [if_neg h, if_neg (by omega)]
theorem zeroTags32 : (Try.prog.info? 58).bind (fun i => i.zero.map Value.cells) = some (arr 96 (tsF fun _ => Tag.zero)) := by kernel_rfl
theorem sizeTags32 : (Try.prog.info? 58).map (·.size) = some 96 := by kernel_rfl
def stV (l : List Ent) : Value := .agg (arr 96 (tsF (stackOf l)))
theorem aheadN_nil : aheadN [] = -1 := rfl
theorem aheadN_app (l : List Ent) (e : Ent) : aheadN (l ++ [e]) = e.1 := by unfold aheadN; simp
set_option maxHeartbeats 4000000 in
theorem stack_any (w : World) (g : Nat) (A : Option Addr) (n c : Nat) (B L : List Int) (hn : n ≤ 4194304) (h : Rd w g A n c B L) :
    Calls Try.prog 87 #[.pointer (some ⟨g, 0, none⟩)] w (RdEnd stV w g A n c B (countR 32 entR L)) := by
  have HR := Lib.hid h
  have HG := Lib.hid h.blk.lt
  clear h
  go_enter Try.func87, Try.ntmps87
  go_upto_region 1 with (refine wpList_alloc_seg rfl 58 rfl 96 (tsF fun _ => Tag.zero) zeroTags32 ?_; intro w1 h1 hB1 hs1)
  go_upto_region 2 with (refine wpList_alloc_seg rfl 58 rfl 96 (tsF fun _ => Tag.zero) zeroTags32 ?_; intro w2 h2 hB2 hs2)
  obtain ⟨gr, hgr⟩ : ∃ gr, gr = w.heap.size := ⟨_, rfl⟩
  obtain ⟨gl, hgl⟩ : ∃ gl, gl = w1.heap.size := ⟨_, rfl⟩
  have H0 := Lib.hid (show VrS w g gr gl 58 96 (tsF fun _ => Tag.zero) (tsF (stackOf [])) A n c B L w2 from ⟨(HR.out.up hB1).up hB2, by rw [hgr]; exact h1.up hB2, by rw [hgl]; exact h2, .of_below (hB1.trans (hB2.mono hB1.size)), by rw [hgr]; exact HG.out, by have := HG.out; omega, by omega, by omega, by omega⟩)
  rw [← hgr, ← hgl]
  clear h1 hB1 hs1 h2 hB2 hs2 hgr hgl HR HG
  go_wp2_with fail
  refine (count_any _ g A n c B L hn H0.out.rd 32).mono ?_
  intro e w3 hE
  cases hg0 : numR (mostB 32) 112 L with
  | error x =>
    obtain ⟨lf, er⟩ := x
    obtain ⟨rfl, hT⟩ := hE.no hg0
    have HT := Lib.hid (H0.out.touch.trans hT)
    have HG := Lib.hid (countR_err (p := entR) hg0)
    clear hE hg0 hT
    go_wp2_with fail
    exact ⟨rfl, RdEnd.bad HG.out rfl HT.out⟩
  | ok x =>
    obtain ⟨k0, L1⟩ := x
    obtain ⟨rfl, hR, hT⟩ := hE.ok hg0
    obtain ⟨K, rfl, hK⟩ := count_fits (m := 32) H0.out.rd.byteL hg0
    unfold i64V
    have HCR := Lib.hid (show countR 32 entR L = manyR entR K [] L1 by unfold countR; rw [hg0, bnd_ok]; rfl)
    have HS1 := Lib.hid (H0.out.read hR hT)
    clear hE hg0 hR hT H0
    go_wp2_with fail
    go_loopw [4, 5, 8, 10, 11, 12, 13, 14, 15, 16, 17, 18, 19, 20, 21, 22, 23, 24, 25] (fun a4 _ a8 _ _ _ _ _ _ _ _ _ _ _ _ _ _ _ _ wr => ∃ (j : Nat) (l : List Ent) (L' : List Int) (al : Int), j ≤ K ∧ a8 = .int .i64 j ∧ l.length = j ∧ a4 = .int .i64 al ∧ -1 ≤ al ∧ al ≤ 31 ∧ Hid (al = aheadN l) ∧ VrS w g gr gl 58 96 (tsF fun _ => Tag.zero) (tsF (stackOf l)) A n c B L' wr ∧ manyR entR (K - j) l L' = manyR entR K [] L1) (fun _ _ a8 _ _ _ _ _ _ _ _ _ _ _ _ _ _ _ _ _ => (K - intOf a8).toNat)
    case atStart => exact ⟨0, [], L1, -1, by omega, rfl, rfl, rfl, by decide, by decide, Lib.hid rfl, HS1.out, rfl⟩
    case round =>
      obtain ⟨j, l, L', al, hj, rfl, hl, rfl, ha0, ha1, HAL, hS, hmany⟩ := hrel
      clear HS1
      have HS := Lib.hid hS
      have HMA := Lib.hid hmany
      have HL := Lib.hid hl
      clear hS hmany hl
      by_cases hlt : j < K
      · have hlt' : (j : Int) < K := by omega
        have hstep : manyR entR (K - j) l L' = bnd (entR l L') fun a t => manyR entR (K - (j + 1)) (l ++ [a]) t := by
          rw [show K - j = (K - (j + 1)) + 1 by omega]; rfl
        have HST := Lib.hid hstep
        clear hstep
        go_wp2_with fail
        refine (byte_any _ g A n c B L' hn HS.out.rd _ slotB 90 en_slot (fun b W _ => slot_deed b W)).mono ?_
        intro e w4 hE
        cases hg1 : byteR slotB 90 L' with
        | error x =>
          obtain ⟨lf, er⟩ := x
          obtain ⟨rfl, hT⟩ := hE.no hg1
          have HT2 := Lib.hid (HS.out.touch.trans hT)
          have HG2 := Lib.hid (show countR 32 entR L = .error (lf, er) by rw [HCR.out, ← HMA.out, HST.out]; unfold entR; rw [hg1]; rfl)
          clear hE hg1 hT
          go_wp2_with fail
          exact ⟨rfl, RdEnd.bad HG2.out rfl HT2.out⟩
        | ok x =>
          obtain ⟨b, L2⟩ := x
          obtain ⟨rfl, hR2, hT⟩ := hE.ok hg1
          unfold i64V
          have hb : L' = b :: L2 ∧ slotB b = true := by
            cases L' with
            | nil => cases hg1
            | cons y t =>
              change (if slotB y = true then _ else _) = _ at hg1
              by_cases h2 : slotB y = true
              · rw [if_pos h2] at hg1
                injection hg1 with hg1; injection hg1 with e1 e2
                subst e1 e2
                exact ⟨rfl, h2⟩
              · rw [if_neg h2] at hg1; cases hg1
          obtain ⟨hbL, hbs⟩ := hb
          have hb31 := (slotB_iff b).1 hbs
          obtain ⟨s, rfl⟩ := Int.eq_ofNat_of_zero_le hb31.1
          have hs31 : s ≤ 31 := by omega
          have HENT := Lib.hid (show entR l L' = if aheadN l < (s : Int) then bnd (tagR true L2) fun g s' => .ok (((s : Int), g), s') else .error (L'.length, 111) by unfold entR; rw [hg1, bnd_ok])
          have hS2 := HS.out.read hR2 hT
          have x1 := hS2.rd.at1
          have hle := HS.out.rd.le
          have hLL : L'.length = L2.length + 1 := by rw [hbL]; rfl
          obtain ⟨p, hp⟩ : ∃ p : Nat, p = n - L'.length := ⟨_, rfl⟩
          have HPE := Lib.hid (show (p : Int) = ((n - L'.length : Nat) : Int) by rw [hp])
          rw [show n - L2.length = p + 1 by omega] at x1
          have x2 : w4.cell? ⟨g, 1, none⟩ = some (.int .i64 ((p : Int) + 1)) := x1
          have hpn : (p : Int) < 4194304 := by omega
          have HS2 := Lib.hid hS2
          clear hE hg1 hR2 hT hbL hbs hb31 hS2 x1 hle hLL hp HS
          go_upto_region 6 with (fail)
          by_cases ha : al < (s : Int)
          · have HE2 := HENT.out
            rw [if_pos (by rw [← HAL.out]; exact ha)] at HE2
            have HENT2 := Lib.hid HE2
            have ta : decide (al < (s : Int)) = true := decide_eq_true ha
            clear HE2 HENT ha
            go_wp2_with fail
            go_at_call 61
            refine (need_yes _ _ _).mono ?_
            rintro e w5 ⟨rfl, rfl⟩
            go_wp2_with fail
            refine (tag_any _ g A n c B L2 hn HS2.out.rd true).mono ?_
            intro e w5 hE
            cases hg2 : tagR true L2 with
            | error x =>
              obtain ⟨lf, er⟩ := x
              obtain ⟨rfl, hT⟩ := hE.no hg2
              have HT2 := Lib.hid (HS2.out.touch.trans hT)
              have HG2 := Lib.hid (show countR 32 entR L = .error (lf, er) by rw [HCR.out, ← HMA.out, HST.out, HENT2.out, hg2]; rfl)
              clear hE hg2 hT
              go_wp2_with fail
              exact ⟨rfl, RdEnd.bad HG2.out rfl HT2.out⟩
            | ok x =>
              obtain ⟨t, L3⟩ := x
              obtain ⟨rfl, hR3, hT⟩ := hE.ok hg2
              unfold tgV
              have HMA2 := Lib.hid (show manyR entR (K - (j + 1)) (l ++ [((s : Int), t)]) L3 = manyR entR K [] L1 by rw [← HMA.out, HST.out, HENT2.out, hg2]; rfl)
              have HS3 := Lib.hid (HS2.out.read hR3 hT)
              have HL2 := Lib.hid (show (l ++ [((s : Int), t)]).length = j + 1 by rw [List.length_append, HL.out]; rfl)
              clear hE hg2 hR3 hT HS2 HMA HST HENT2 x2
              obtain ⟨F, hF⟩ : ∃ F, F = tgF t := ⟨_, rfl⟩
              have HO := Lib.hid (show ∀ q, q < 3 → (F q).oneCell' = true by rw [hF]; exact tgF_one t)
              rw [← hF]
              have HF := Lib.hid hF
              clear hF
              have hss : (s : Int) < 32 := by omega
              go_simp
              go_upto_region 8 with (refine wpList_store_seg rfl 56 _ _ rfl gl (s * 3) 58 96 3 _ F rfl rfl HS3.out.var (by omega) sizeTag HO.out ?_; intro w6 h6 hT6 hs6)
              have HS4 := Lib.hid (show VrS w g gr gl 58 96 (tsF fun _ => Tag.zero) (tsF (stackOf (l ++ [((s : Int), t)]))) A n c B L3 w6 from HS3.out.own hT6 (h6.congr fun q _ => by rw [HF.out, tsF_set, stackOf_app]; rfl))
              clear h6 hT6 hs6 HS3 HF HO
              have hah := aheadN_app l ((s : Int), t)
              simp only at hah
              have HAH2 := Lib.hid hah
              clear hah
              go_wp2_with fail
              go_roundw
              case rel => exact ⟨j + 1, l ++ [((s : Int), t)], L3, s, by omega, by go_num, HL2.out, rfl, by omega, by omega, Lib.hid HAH2.out.symm, HS4.out, HMA2.out⟩
              case measure => simp [intOf]; omega
          · have HE2 := HENT.out
            rw [if_neg (by rw [← HAL.out]; exact ha)] at HE2
            have HG2 := Lib.hid (show countR 32 entR L = .error (L'.length, 111) by rw [HCR.out, ← HMA.out, HST.out, HE2]; rfl)
            have ta : decide (al < (s : Int)) = false := decide_eq_false ha
            clear HE2 HENT ha
            go_wp2_with fail
            go_at_call 61
            refine (need_no _ _ _).mono ?_
            rintro e w5 ⟨rfl, rfl⟩
            go_wp2_with fail
            exact ⟨rfl, RdEnd.bad HG2.out (by rw [HPE.out]) HS2.out.touch⟩
      · have hjK : j = K := by omega
        have HE := Lib.hid (show countR 32 entR L = .ok (l, L') by rw [HCR.out, ← HMA.out, hjK, Nat.sub_self]; rfl)
        have hlt' : decide (j < K) = false := by simp; omega
        clear hjK HMA
        obtain ⟨F, hF⟩ : ∃ F, F = tsF (stackOf l) := ⟨_, rfl⟩
        have HO := Lib.hid (show ∀ q, q < 96 → (F q).oneCell' = true by rw [hF]; exact tsF_one _ _)
        have H6 := Lib.hid (show FB wr gl 58 96 F by rw [hF]; exact HS.out.var)
        have HF := Lib.hid hF
        clear hF
        go_wp2_with (first
          | (refine wpList_load_all rfl 58 _ rfl gl rfl 58 96 F _ H6.out Try.underlying58 rfl sizeTags32 ?_)
          | (refine wpList_store_all rfl 58 _ _ rfl gr 58 96 _ F rfl rfl HS.out.res sizeTags32 HO.out ?_; intro w7 h7 hT7 hs7))
        refine bodyPost_ret (result_seg rfl _ _ gr _ 96 _ _ rfl h7 Try.underlying58 rfl sizeTags32) rfl (RdEnd.mk HE.out (by rw [HF.out]; rfl) (HS.out.rd.far HS.out.lr hT7) (HS.out.touch.own HS.out.nr hT7))
end Go.Proofs.Ytbomihdnnidelaa
