/- Package pack: PackDecodes: bytes with the right sum behind them; one reading held against the document's. -/
import Derived.Test.YtkfcfoidaalnlaaPkRh
import Derived.Test.YtkfcfoidaalnlaaPkLk
import Derived.Deep.DeepCutAuto
namespace Go.Proofs.Ytkfcfoidaalnlaa.Pak
open Go.ChangeShapes Go.WideShapes Go.ChangeAt Go.RowKit
open Ln
set_option linter.unusedVariables false
set_option linter.unusedSimpArgs false
set_option maxRecDepth 100000
/-- a row of bytes that is a block's own -/
def Rw (W : World) (b : Nat) (L : List Int) : Prop := ∃ cs, Blk W b 5 cs ∧ ∀ i, i < L.length → cs[i]? = some (.int .u8 (L[i]?.getD 0))
section
variable {W W' : World} {b n c : Nat} {L : List Int}
theorem Rw.lt (h : Rw W b L) : b < W.heap.size := by obtain ⟨cs, h1, -⟩ := h; exact h1.lt
theorem Rw.cell (h : Rw W b L) (i : Nat) (hi : i < L.length) : W.cell? ⟨b, i, none⟩ = some (.int .u8 (L[i]?.getD 0)) := by obtain ⟨cs, h1, h2⟩ := h; exact (h1.cell i).trans (h2 i hi)
theorem Rw.frozen (h : Rw W b L) (i : Nat) : W.frozen? ⟨b, i, none⟩ = false := by obtain ⟨cs, h1, -⟩ := h; exact h1.frozen i
theorem Rw.sl (h : Rw W b L) (hn : L.length = n) (hc : n ≤ c) : Sl W (some ⟨b, 0, none⟩) n c L :=
  ⟨Lib.hid hn, hc, fun hp => ⟨b, 0, rfl, h.lt, fun i hi => by rw [Nat.zero_add]; exact h.cell i hi⟩, fun b' off e => by injection e with e; injection e with e1; subst e1; exact h.lt⟩
theorem Rw.eq (h : Rw W b L) (hk : W'.heap[b]? = W.heap[b]?) : Rw W' b L := by obtain ⟨cs, h1, h2⟩ := h; exact ⟨cs, hk.trans h1, h2⟩
theorem Rw.up (h : Rw W b L) (hb : Below W.heap.size W W') : Rw W' b L := h.eq (hb.block b h.lt)
theorem Rw.set_ (h : Rw W b L) (i : Nat) (y : Int) (hi : i < L.length) : Rw (W.setCell ⟨b, i, none⟩ (.int .u8 y)) b (L.set i y) := by
  obtain ⟨cs, h1, h2⟩ := h
  refine ⟨_, h1.set_ i _, fun j hj => ?_⟩
  rw [List.length_set] at hj
  have hic : i < cs.size := by
    rcases Nat.lt_or_ge i cs.size with h3 | h3
    · exact h3
    · have := h2 i hi; rw [Array.getElem?_eq_none h3] at this; cases this
  by_cases e : i = j
  · subst e
    rw [Array.getElem?_setIfInBounds_self_of_lt hic, List.getElem?_set_self hi]; rfl
  · rw [Array.getElem?_setIfInBounds_ne e, List.getElem?_set_ne e]; exact h2 j hj
theorem Rw.of_own {base : Nat} {v : Value} (h : OwnB W base v L) (hL : 0 < L.length) : ∃ b c, v = .slice (some ⟨b, 0, none⟩) L.length c ∧ base ≤ b ∧ L.length ≤ c ∧ Rw W b L := by
  rcases h.2 with ⟨h1, hn⟩ | ⟨g, cap, cur, hv', hg, hh, hnc, hcm, hcs, hx⟩
  · omega
  · refine ⟨g, cap, hv', hg, hnc, cur, hh, fun i hi => ?_⟩
    have h2 := congrArg (fun l => l[i]?) hx
    simp only [List.getElem?_take, Nat.mul_one, if_pos hi, List.getElem?_map] at h2
    rw [Array.getElem?_toList] at h2
    rw [h2, List.getElem?_eq_getElem hi]
    rfl
end
/-- bytes with the right sum in the place of the last four -/
def sumdL (L : List Int) : List Int := if L.length < 4 ∨ 3000 < L.length then L else L.take (L.length - 4) ++ le (sumN (L.take (L.length - 4))) 4
theorem sumdL_len (L : List Int) : (sumdL L).length = L.length := by
  unfold sumdL
  split
  · rfl
  · rw [List.length_append, List.length_take, le_len]; omega
theorem sumdL_bytes {L : List Int} (h : Bytes L) : Bytes (sumdL L) := by
  unfold sumdL
  split
  · exact h
  · exact (h.take _).app (le_bytes _ _)
def SumdEnd (w : World) (L : List Int) (e : Ending) (w' : World) : Prop :=
  ∃ A n c, e = .returned (.slice A n c) ∧ Sl w' A n c (sumdL L) ∧ (∀ b off, A = some ⟨b, off, none⟩ → w.heap.size ≤ b) ∧ Below w.heap.size w w'
theorem own_sl {w w' : World} {v : Value} {L : List Int} {base : Nat} (h : OwnB w' base v L) : ∃ A c, v = .slice A L.length c ∧ Sl w' A L.length c L ∧ (∀ b off, A = some ⟨b, off, none⟩ → base ≤ b) := by
  obtain ⟨A, n, c, rfl, hs⟩ := own_full h
  have hn := hs.len.out
  subst hn
  refine ⟨A, c, rfl, hs, fun b off e => ?_⟩
  rcases h.2 with ⟨h1, hn⟩ | ⟨g, cap, cur, hv', hg, hh, -⟩
  · injection h1 with h1; rw [h1] at e; cases e
  · injection hv' with hv'; rw [hv'] at e; injection e with e; injection e with e1; omega
theorem dig_set (S : List Int) (X Y : List Int) (j : Nat) (hS : S.length = 4) (hY : Y.length = 4) (hj : j < 4) : (X ++ (S.take j ++ Y.drop j)).set (X.length + j) (S[j]?.getD 0) = X ++ (S.take (j + 1) ++ Y.drop (j + 1)) := by
  match S, hS, Y, hY with
  | [s0, s1, s2, s3], _, [y0, y1, y2, y3], _ =>
    rw [List.set_append_right _ _ (by omega), Nat.add_sub_cancel_left]
    congr 1
    rcases (show j = 0 ∨ j = 1 ∨ j = 2 ∨ j = 3 by omega) with rfl | rfl | rfl | rfl <;> rfl
theorem le_dig (s : Int) (j : Nat) (hj : j < 4) : (le s 4)[j]?.getD 0 = s / 2 ^ (8 * j) % 256 := by
  rcases (show j = 0 ∨ j = 1 ∨ j = 2 ∨ j = 3 by omega) with rfl | rfl | rfl | rfl
  · show s % 256 = s / (2 : Int) ^ (8 * 0) % 256
    rw [show (2 : Int) ^ (8 * 0) = 1 from rfl]; omega
  · show s / 256 % 256 = s / (2 : Int) ^ (8 * 1) % 256
    rw [show (2 : Int) ^ (8 * 1) = 256 from rfl]
  · show s / 256 / 256 % 256 = s / (2 : Int) ^ (8 * 2) % 256
    rw [show (2 : Int) ^ (8 * 2) = 65536 from rfl]; omega
  · show s / 256 / 256 / 256 % 256 = s / (2 : Int) ^ (8 * 3) % 256
    rw [show (2 : Int) ^ (8 * 3) = 16777216 from rfl]; omega
set_option maxHeartbeats 2000000 in
theorem summed_any (w : World) (A : Option Addr) (n c : Nat) (L : List Int) (hS : Sl w A n c L) (hY : Bytes L) (hn : n ≤ 1048576) :
    Calls Try.prog 19 #[.slice A n c] w (SumdEnd w L) := by
  have HS := Lib.hid hS
  have HY := Lib.hid hY
  have HLN := Lib.hid hS.len.out
  clear hS hY
  by_cases h1 : n < 4 ∨ 3000 < n
  · have HSD := Lib.hid (show sumdL L = L by unfold sumdL; rw [if_pos (by rw [HLN.out]; exact h1)])
    go_enter Try.func19, Try.ntmps19
    go_upto_region 2 with (go_at_call 17; refine (copyBytes_own w A n c L HS.out (by omega)).mono ?_; rintro e w2 ⟨v2, rfl, hO2, hB2⟩; (obtain ⟨A2, c2, rfl, hs2, hb2⟩ := own_sl (w := w) hO2); (have HO2 := Lib.hid (And.intro hs2 (And.intro hb2 hB2))); clear hO2 hB2 hs2 hb2; rw [HLN.out])
    rcases (show n < 4 ∨ (¬ n < 4 ∧ 3000 < n) by omega) with h2 | ⟨h2, h3⟩
    · have t1 : (n : Int) < 4 := by omega
      go_wp2_with fail
      go_ret
      refine ⟨A2, n, c2, rfl, ?_, HO2.out.2.1, HO2.out.2.2⟩
      rw [HSD.out]; have := HO2.out.1; rw [HLN.out] at this; exact this
    · have t1 : ¬ ((n : Int) < 4) := by omega
      have t2 : (3000 : Int) < n := by omega
      go_wp2_with fail
      go_ret
      refine ⟨A2, n, c2, rfl, ?_, HO2.out.2.1, HO2.out.2.2⟩
      rw [HSD.out]; have := HO2.out.1; rw [HLN.out] at this; exact this
  obtain ⟨E, rfl⟩ : ∃ E, n = E + 4 := ⟨n - 4, by omega⟩
  have hE : E ≤ 2996 := by omega
  obtain ⟨ss, hss⟩ : ∃ z : Nat, z = sumN (L.take E) := ⟨_, rfl⟩
  have HSD := Lib.hid (show sumdL L = L.take E ++ le ss 4 by unfold sumdL; rw [if_neg (by rw [HLN.out]; exact h1), HLN.out, Nat.add_sub_cancel, ← hss])
  have HSS := Lib.hid hss
  have HSL := Lib.hid (show ss < 4294967296 by rw [hss]; exact sumN_lt _)
  clear hss h1
  go_enter Try.func19, Try.ntmps19
  go_upto_region 2 with (go_at_call 17; refine (copyBytes_own w A (E + 4) c L HS.out (by omega)).mono ?_; rintro e w2 ⟨v2, rfl, hO2, hB2⟩; (obtain ⟨b2, c2, rfl, hb2, hc2, hr2⟩ := Rw.of_own hO2 (by rw [HLN.out]; omega)); (have HO2 := Lib.hid hr2); (have HB2 := Lib.hid hB2); (have HBS := Lib.hid hb2); clear hO2 hB2 hr2 hb2; rw [HLN.out] at hc2 ⊢)
  have t1 : ¬ ((E : Int) + 4 < 4) := by omega
  have t2 : ¬ ((3000 : Int) < (E : Int) + 4) := by omega
  have cE : (E : Int) ≤ c2 := by omega
  have cE4 : (E : Int) + 4 ≤ c2 := by omega
  have HSM := Lib.hid (rsum_any w2 (some ⟨b2, 0, none⟩) E c2 (L.take E) (by rw [List.length_take]; have := HLN.out; omega) (by omega) (HY.out.take E) (by
    have := bytes_part (p := 0) (m := E) (M := L.take E) (HO2.out.sl HLN.out hc2).byt rfl (by have := HLN.out; omega)
    exact this))
  rw [← HSS.out] at HSM
  go_upto_region 5 with (go_at_call 28; refine HSM.out.mono ?_; rintro e w3 ⟨rfl, hB3⟩)
  have HO3 := Lib.hid (show Rw w3 b2 (L.take E ++ ((le ss 4).take 0 ++ (L.drop E).drop 0)) by
    have := HO2.out.up hB3
    rw [show L.take E ++ ((le ss 4).take 0 ++ (L.drop E).drop 0) = L from List.take_append_drop E L]; exact this)
  have HB3 := Lib.hid (HB2.out.trans (hB3.mono HB2.out.size))
  clear hB3 HO2 HB2 HSM t1 t2 HS HSS
  go_wp2_with fail
  go_loopw [5] (fun a5 wr => ∃ j : Nat, a5 = .int .i64 j ∧ j ≤ 4 ∧ Hid (Rw wr b2 (L.take E ++ ((le ss 4).take j ++ (L.drop E).drop j))) ∧ Hid (Below w.heap.size w wr)) (fun a5 _ => (4 - intOf a5).toNat)
  case atStart => exact ⟨0, rfl, by decide, HO3, HB3⟩
  case round =>
    obtain ⟨j, rfl, hj, HO, HB⟩ := hrel
    clear HO3 HB3
    have HCL := Lib.hid (show (L.take E ++ ((le ss 4).take j ++ (L.drop E).drop j)).length = E + 4 by
      simp only [List.length_append, List.length_take, List.length_drop, le_len]; have := HLN.out; omega)
    by_cases hlt : j < 4
    · have m0 := HO.out.cell (E + j) (by rw [HCL.out]; omega)
      have m1 := HO.out.frozen (E + j)
      have HD := Lib.hid (fun y => HO.out.set_ (E + j) y (by rw [HCL.out]; omega))
      have HDS := Lib.hid (dig_set (le ss 4) (L.take E) (L.drop E) j (le_len _ _) (by rw [List.length_drop]; have := HLN.out; omega) hlt)
      rw [show (L.take E).length = E by rw [List.length_take]; have := HLN.out; omega] at HDS
      have tE : (E : Int) + j < (E : Int) + 4 := by omega
      have e9 : ((E : Int) + j).toNat = E + j := by omega
      obtain ⟨mm, hmm⟩ : ∃ z, z = (L.take E ++ ((le ss 4).take j ++ (L.drop E).drop j))[E + j]?.getD 0 := ⟨_, rfl⟩
      rw [← hmm] at m0
      clear hmm
      go_upto_region 7 with fail
      rw [le_dig _ j hlt] at HDS
      have HO2 := Lib.hid (HD.out ((ss : Int) / 2 ^ (8 * j) % 256))
      rw [HDS.out] at HO2
      obtain ⟨w7, hw7⟩ : ∃ u, u = wr.setCell ⟨b2, E + j, none⟩ (.int .u8 ((ss : Int) / 2 ^ (8 * j) % 256)) := ⟨_, rfl⟩
      rw [← hw7] at HO2 ⊢
      have HB7 := Lib.hid (show Below w.heap.size w w7 by rw [hw7]; exact HB.out.setCell HBS.out _)
      clear hw7 HD HDS m0 m1
      go_wp2_with fail
      go_roundw
      case rel => exact ⟨j + 1, by go_num, by omega, HO2, HB7⟩
      case measure => simp [intOf]; omega
    · obtain rfl : j = 4 := by omega
      have HR := Lib.hid (show L.take E ++ ((le ss 4).take 4 ++ (L.drop E).drop 4) = sumdL L by
        rw [HSD.out, List.take_of_length_le (l := le (ss : Int) 4) (by rw [le_len]; exact Nat.le_refl _), List.drop_of_length_le (l := L.drop E) (by rw [List.length_drop]; have := HLN.out; omega), List.append_nil])
      rw [HR.out] at HO HCL
      go_wp2_with fail
      go_ret
      exact ⟨_, _, _, rfl, HO.out.sl HCL.out hc2, fun b off e => by injection e with e; injection e with e1; have := HBS.out; omega, HB.out⟩
end Go.Proofs.Ytkfcfoidaalnlaa.Pak
