/- Package deed: two deeds held to be the same. -/
import Derived.Test.YtbomihdnnidelaaDSb
namespace Go.Proofs.Ytbomihdnnidelaa
open Go.ChangeShapes Go.WideShapes Go.ChangeAt Go.RowKit
open Dee
set_option linter.unusedVariables false
set_option linter.unusedSimpArgs false
set_option maxRecDepth 100000
def sameCls : List Mc → List Mc → Bool
  | [], [] => true
  | a :: s, b :: t => sameMb a b && sameCls s t
  | _, _ => false
def sameDb (d x : Md) : Bool := decide (d.loops = x.loops) && sameCls d.claims x.claims
theorem sameCls_iff : ∀ {l m : List Mc}, sameCls l m = true ↔ l.length = m.length ∧ ∀ (k : Nat) a b, l[k]? = some a → m[k]? = some b → Mc.same a b
  | [], [] => by simp [sameCls]
  | [], b :: t => by simp [sameCls]
  | a :: s, [] => by simp [sameCls]
  | a :: s, b :: t => by
    unfold sameCls
    rw [Bool.and_eq_true, sameMb_iff, sameCls_iff]
    constructor
    · rintro ⟨h1, h2, h3⟩
      refine ⟨by simp [h2], fun k x y hx hy => ?_⟩
      cases k with
      | zero =>
        simp at hx hy
        rw [← hx, ← hy]; exact h1
      | succ k => exact h3 k x y (by simpa using hx) (by simpa using hy)
    · rintro ⟨h1, h2⟩
      exact ⟨h2 0 a b rfl rfl, by simpa using h1, fun k x y hx hy => h2 (k + 1) x y (by simpa using hx) (by simpa using hy)⟩
theorem sameDb_iff {d x : Md} : sameDb d x = true ↔ Md.same d x := by
  unfold sameDb Md.same
  rw [Bool.and_eq_true, decide_eq_true_eq, sameCls_iff]
theorem sameCls_len {l m : List Mc} (h : l.length ≠ m.length) : sameCls l m = false := by
  cases hc : sameCls l m
  · rfl
  · exact absurd (sameCls_iff.1 hc).1 h
theorem drop_get {α : Type} {l : List α} {i : Nat} {x : α} (h : l[i]? = some x) : l.drop i = x :: l.drop (i + 1) := by
  have hlt : i < l.length := by
    rcases Nat.lt_or_ge i l.length with h1 | h1
    · exact h1
    · rw [List.getElem?_eq_none h1] at h; cases h
  rw [List.drop_eq_getElem_cons hlt]
  rw [List.getElem?_eq_getElem hlt] at h
  injection h with h
  rw [h]
set_option maxHeartbeats 16000000 in
theorem sameDeed_any (w : World) (vl vc vl' vc' : Value) (d d' : Md) (hat : DeedAt w.heap.size w vl vc d) (hat' : DeedAt w.heap.size w vl' vc' d') (hn1 : d.loops.length ≤ 9223372036854775807) (hn2 : d.claims.length ≤ 9223372036854775807) :
    Calls Try.prog 22 #[.agg (arr 2 (deF vl vc)), .agg (arr 2 (deF vl' vc'))] w (RetB w (.bool (sameDb d d'))) := by
  obtain ⟨⟨Al, ml, cl, rfl, HLL, hRl⟩, ⟨Ac, mc, cc, ps, rfl, HLC, hmap, hRc, hCV⟩⟩ := hat
  obtain ⟨⟨Al', ml', cl', rfl, HLL', hRl'⟩, ⟨Ac', mc', cc', ps', rfl, HLC', hmap', hRc', hCV'⟩⟩ := hat'
  have HRL := Lib.hid hRl
  have HRC := Lib.hid hRc
  have HCV := Lib.hid hCV
  have HMP := Lib.hid hmap
  have HLD := Lib.hid (show d.claims.length = mc by rw [← HMP.out, List.length_map]; exact HLC.out)
  have HRL' := Lib.hid hRl'
  have HRC' := Lib.hid hRc'
  have HCV' := Lib.hid hCV'
  have HMP' := Lib.hid hmap'
  have HLD' := Lib.hid (show d'.claims.length = mc' by rw [← HMP'.out, List.length_map]; exact HLC'.out)
  rw [HLL.out] at hn1
  rw [HLD.out] at hn2
  clear hRl hRc hCV hmap hRl' hRc' hCV' hmap'
  obtain ⟨T, hT⟩ : ∃ T, T = deF (.slice Al ml cl) (.slice Ac mc cc) := ⟨_, rfl⟩
  obtain ⟨U, hU⟩ : ∃ T, T = deF (.slice Al' ml' cl') (.slice Ac' mc' cc') := ⟨_, rfl⟩
  have HTT := Lib.hid hT
  have HUU := Lib.hid hU
  rw [← hT, ← hU]
  clear hT hU
  go_enter Try.func22, Try.ntmps22
  go_upto_region 1 with (first | (refine wpList_box_seg rfl _ (.tmp 0) rfl 2 T rfl ?_; intro w1 h1 hB1 hs1) | (refine wpList_box_seg rfl _ (.tmp 1) rfl 2 U rfl ?_; intro w2 h2 hB2 hs2))
  obtain ⟨gb, hgb⟩ : ∃ gb, gb = w.heap.size := ⟨_, rfl⟩
  obtain ⟨gc, hgc⟩ : ∃ gb, gb = w.heap.size + 1 := ⟨_, rfl⟩
  rw [← hgc, ← hgb]
  rw [← hgb] at h1
  rw [show w1.heap.size = gc by rw [hgc]; exact hs1] at h2
  have HF0 := Lib.hid (show FB w2 gb 26 2 (deF (.slice Al ml cl) (.slice Ac mc cc)) by rw [← HTT.out]; exact h1.up hB2)
  have HG0 := Lib.hid (show FB w2 gc 26 2 (deF (.slice Al' ml' cl') (.slice Ac' mc' cc')) by rw [← HUU.out]; exact h2)
  have HB0 := Lib.hid (hB1.trans (hB2.mono hB1.size))
  clear h1 hB1 hs1 h2 hB2 hs2 hgb hgc HTT HUU
  have x0 : w2.cell? ⟨gb, 0, none⟩ = some (.slice Al ml cl) := HF0.out.cell 0 (by decide)
  have x1 : w2.cell? ⟨gb, 1, none⟩ = some (.slice Ac mc cc) := HF0.out.cell 1 (by decide)
  have y0 : w2.cell? ⟨gc, 0, none⟩ = some (.slice Al' ml' cl') := HG0.out.cell 0 (by decide)
  have y1 : w2.cell? ⟨gc, 1, none⟩ = some (.slice Ac' mc' cc') := HG0.out.cell 1 (by decide)
  by_cases hm : ¬ ml = ml'
  · have t1 : ((ml : Int) == ml') = false := by rw [beq_eq_false_iff_ne]; omega
    have HE := Lib.hid (show false = sameDb d d' by
      unfold sameDb
      rw [decide_eq_false (fun e => hm (by rw [← HLL.out, ← HLL'.out, e]))]
      rfl)
    clear hm
    go_wp2_with fail
    go_ret
    exact ⟨ret_bool HE.out, HB0.out⟩
  obtain rfl : ml = ml' := by omega
  clear hm
  have t1 : ((ml : Int) == ml) = true := by simp
  by_cases hm : ¬ mc = mc'
  · have t2 : ((mc : Int) == mc') = false := by rw [beq_eq_false_iff_ne]; omega
    have HE := Lib.hid (show false = sameDb d d' by
      unfold sameDb
      rw [sameCls_len (by rw [HLD.out, HLD'.out]; exact hm), Bool.and_false])
    clear hm
    go_wp2_with fail
    go_ret
    exact ⟨ret_bool HE.out, HB0.out⟩
  obtain rfl : mc = mc' := by omega
  clear hm
  have t2 : ((mc : Int) == mc) = true := by simp
  go_wp2_with fail
  clear x0 x1 y0 y1 t1 t2
  go_loopw [4, 5, 23, 24, 25, 26, 27, 28, 29, 30, 31, 32, 33, 34, 35, 36, 37, 38, 39, 40] (fun _ a5 _ _ _ _ _ _ _ _ _ _ _ _ _ _ _ _ _ _ wr => ∃ (j : Nat), j ≤ ml ∧ a5 = .int .i64 j ∧ FB wr gb 26 2 (deF (.slice Al ml cl) (.slice Ac mc cc)) ∧ FB wr gc 26 2 (deF (.slice Al' ml cl') (.slice Ac' mc cc')) ∧ Below w.heap.size w wr ∧ d.loops.take j = d'.loops.take j) (fun _ a5 _ _ _ _ _ _ _ _ _ _ _ _ _ _ _ _ _ _ _ => (ml - intOf a5).toNat)
  case atStart => exact ⟨0, by omega, rfl, HF0.out, HG0.out, HB0.out, by simp⟩
  case round =>
    obtain ⟨j, hj, rfl, hF, hG, hB, hTK⟩ := hrel
    clear HF0 HG0 HB0
    have HF := Lib.hid hF
    have HG := Lib.hid hG
    have HB := Lib.hid hB
    have HTK := Lib.hid hTK
    have x0 : wr.cell? ⟨gb, 0, none⟩ = some (.slice Al ml cl) := HF.out.cell 0 (by decide)
    clear hF hG hB hTK
    by_cases hlt : j < ml
    · have hlt' : (j : Int) < ml := by omega
      obtain ⟨b, off, rfl, hbB, hcells⟩ := HRL.out (by have := HLL.out; omega)
      obtain ⟨b', off', rfl, hbB', hcells'⟩ := HRL'.out (by have := HLL'.out; omega)
      obtain ⟨y, hy⟩ : ∃ y, d.loops[j]? = some y := ⟨d.loops[j]'(by have := HLL.out; omega), List.getElem?_eq_getElem _⟩
      obtain ⟨z, hz⟩ : ∃ y, d'.loops[j]? = some y := ⟨d'.loops[j]'(by have := HLL'.out; omega), List.getElem?_eq_getElem _⟩
      have HX := Lib.hid (fun W (hW : W = wr.drew) k (hk : k < 5) => show W.cell? ⟨b, off + j * 5 + k, none⟩ = some (loF y k) by rw [hW]; exact (HB.out.cell (p := ⟨b, off + j * 5 + k, none⟩) hbB).trans (hcells j y hy k hk))
      have HX' := Lib.hid (fun W (hW : W = wr.drew) k (hk : k < 5) => show W.cell? ⟨b', off' + j * 5 + k, none⟩ = some (loF z k) by rw [hW]; exact (HB.out.cell (p := ⟨b', off' + j * 5 + k, none⟩) hbB').trans (hcells' j z hz k hk))
      have HY := Lib.hid hy
      have HZ := Lib.hid hz
      have HEQ := Lib.hid (eq_loop y z)
      clear hcells hcells' hy hz
      go_upto_region 6 with fail
      refine wp_region_tail 10 (by kernel_rfl) (by kernel_rfl) fun W hW => ?_
      simp only [List.take_succ_cons, List.take_zero, List.drop_succ_cons, List.drop_zero]
      have HBW := Lib.hid (show Below w.heap.size w W by rw [hW]; exact HB.out.drew)
      have HFW := Lib.hid (show FB W gb 26 2 (deF (.slice (some ⟨b, off, none⟩) ml cl) (.slice Ac mc cc)) by rw [hW]; exact HF.out.drewN 1)
      have HGW := Lib.hid (show FB W gc 26 2 (deF (.slice (some ⟨b', off', none⟩) ml cl') (.slice Ac' mc cc')) by rw [hW]; exact HG.out.drewN 1)
      have hx := HX.out W hW
      have hx' := HX'.out W hW
      have heq := HEQ.out W
      clear hW HX HX' HEQ HF HG HB x0
      have HX := Lib.hid hx
      have HX' := Lib.hid hx'
      have HEQ := Lib.hid heq
      clear hx hx' heq
      have z0 : W.cell? ⟨gb, 0, none⟩ = some (.slice (some ⟨b, off, none⟩) ml cl) := HFW.out.cell 0 (by decide)
      have z1 : W.cell? ⟨gc, 0, none⟩ = some (.slice (some ⟨b', off', none⟩) ml cl') := HGW.out.cell 0 (by decide)
      obtain ⟨F, hF⟩ : ∃ F, F = loF y := ⟨_, rfl⟩
      obtain ⟨F', hF'⟩ : ∃ F, F = loF z := ⟨_, rfl⟩
      rw [← hF, ← hF'] at HEQ
      rw [← hF] at HX
      rw [← hF'] at HX'
      clear hF hF'
      iterate 4 still_step
      refine wpStill_load_cells rfl 54 _ rfl b (off + j * 5) rfl 5 F _ HX.out Try.underlying54 rfl sizeLoop ?_
      iterate 4 still_step
      refine wpStill_load_cells rfl 54 _ rfl b' (off' + j * 5) rfl 5 F' _ HX'.out Try.underlying54 rfl sizeLoop ?_
      refine wpStill_nil ?_
      obtain ⟨r, hr⟩ : ∃ r, r = decide (y = z) := ⟨_, rfl⟩
      rw [← hr] at HEQ
      refine wpList_neq_arr rfl 54 _ _ _ rfl (arr 5 F) (arr 5 F') r rfl rfl guardLoop HEQ.out ?_
      clear z0 z1
      cases r
      · have hd := take_diff HY.out HZ.out (of_decide_eq_false hr.symm)
        have HE := Lib.hid (show false = sameDb d d' by unfold sameDb; rw [decide_eq_false hd]; rfl)
        clear hd hr
        go_wp2_with fail
        go_ret
        exact ⟨ret_bool HE.out, HBW.out⟩
      · have HD := Lib.hid (take_more HY.out HZ.out (of_decide_eq_true hr.symm) HTK.out)
        clear hr
        go_wp2_with fail
        go_roundw
        case rel => exact ⟨j + 1, by omega, by go_num, HFW.out, HGW.out, HBW.out, HD.out⟩
        case measure => simp [intOf]; omega
    · obtain rfl : j = ml := by omega
      have HE := Lib.hid (show sameDb d d' = sameCls d.claims d'.claims by
        have h := HTK.out
        rw [List.take_of_length_le (by rw [HLL.out]; exact Nat.le_refl _), List.take_of_length_le (by rw [HLL'.out]; exact Nat.le_refl _)] at h
        unfold sameDb
        rw [decide_eq_true h, Bool.true_and])
      have hlt' : decide (j < j) = false := by simp
      clear hlt hj HTK
      go_wp2_with fail
      clear x0 hlt'
      go_loopw [4, 6, 41, 42, 43, 44, 45, 46, 47, 48, 49, 50, 51, 52, 53, 54, 55, 56, 57, 58, 59] (fun _ a6 _ _ _ _ _ _ _ _ _ _ _ _ _ _ _ _ _ _ _ wr => ∃ (i : Nat), i ≤ mc ∧ a6 = .int .i64 i ∧ FB wr gb 26 2 (deF (.slice Al j cl) (.slice Ac mc cc)) ∧ FB wr gc 26 2 (deF (.slice Al' j cl') (.slice Ac' mc cc')) ∧ Below w.heap.size w wr ∧ sameCls (d.claims.drop i) (d'.claims.drop i) = sameCls d.claims d'.claims) (fun _ a6 _ _ _ _ _ _ _ _ _ _ _ _ _ _ _ _ _ _ _ _ => (mc - intOf a6).toNat)
      case atStart => exact ⟨0, by omega, rfl, HF.out, HG.out, HB.out, rfl⟩
      case round =>
        obtain ⟨i, hi, rfl, hF, hG, hB, hce⟩ := hrel
        clear HF HG HB
        have HF := Lib.hid hF
        have HG := Lib.hid hG
        have HB := Lib.hid hB
        have HCE := Lib.hid hce
        have x0 : wr.cell? ⟨gb, 1, none⟩ = some (.slice Ac mc cc) := HF.out.cell 1 (by decide)
        clear hF hG hB hce
        by_cases hlt : i < mc
        · have hlt' : (i : Int) < mc := by omega
          obtain ⟨b, off, rfl, hbB, hcells⟩ := HRC.out (by have := HLC.out; omega)
          obtain ⟨b', off', rfl, hbB', hcells'⟩ := HRC'.out (by have := HLC'.out; omega)
          obtain ⟨y, hy⟩ : ∃ y, ps[i]? = some y := ⟨ps[i]'(by have := HLC.out; omega), List.getElem?_eq_getElem _⟩
          obtain ⟨z, hz⟩ : ∃ y, ps'[i]? = some y := ⟨ps'[i]'(by have := HLC'.out; omega), List.getElem?_eq_getElem _⟩
          have hyc : d.claims[i]? = some y.1 := by rw [← HMP.out, List.getElem?_map, hy]; rfl
          have hzc : d'.claims[i]? = some z.1 := by rw [← HMP'.out, List.getElem?_map, hz]; rfl
          have HX := Lib.hid (fun W (hW : W = wr.drew) k (hk : k < 128) => show W.cell? ⟨b, off + i * 128 + k, none⟩ = some (mcF y k) by rw [hW]; exact (HB.out.cell (p := ⟨b, off + i * 128 + k, none⟩) hbB).trans (hcells i y hy k hk))
          have HX' := Lib.hid (fun W (hW : W = wr.drew) k (hk : k < 128) => show W.cell? ⟨b', off' + i * 128 + k, none⟩ = some (mcF z k) by rw [hW]; exact (HB.out.cell (p := ⟨b', off' + i * 128 + k, none⟩) hbB').trans (hcells' i z hz k hk))
          have HCE2 := Lib.hid (show (sameMb y.1 z.1 && sameCls (d.claims.drop (i + 1)) (d'.claims.drop (i + 1))) = sameDb d d' by rw [HE.out, ← HCE.out, drop_get hyc, drop_get hzc]; rfl)
          have HYV := Lib.hid ((HCV.out y (List.mem_of_getElem? hy)).keep HB.out)
          have HZV := Lib.hid ((HCV'.out z (List.mem_of_getElem? hz)).keep HB.out)
          clear hcells hcells' hy hz hyc hzc HCE
          go_upto_region 11 with fail
          refine wp_region_tail 10 (by kernel_rfl) (by kernel_rfl) fun W hW => ?_
          simp only [List.take_succ_cons, List.take_zero, List.drop_succ_cons, List.drop_zero]
          have hbd : Below w.heap.size wr W := by rw [hW]; exact (Below.refl _ _).drew
          have HBW := Lib.hid (HB.out.trans hbd)
          have HYW := Lib.hid (HYV.out.keep hbd)
          have HZW := Lib.hid (HZV.out.keep hbd)
          have HFW := Lib.hid (show FB W gb 26 2 (deF (.slice Al j cl) (.slice (some ⟨b, off, none⟩) mc cc)) by rw [hW]; exact HF.out.drewN 1)
          have HGW := Lib.hid (show FB W gc 26 2 (deF (.slice Al' j cl') (.slice (some ⟨b', off', none⟩) mc cc')) by rw [hW]; exact HG.out.drewN 1)
          have hx := HX.out W hW
          have hx' := HX'.out W hW
          clear hW hbd HX HX' HF HG HB x0 HYV HZV
          have HX := Lib.hid hx
          have HX' := Lib.hid hx'
          clear hx hx'
          have z0 : W.cell? ⟨gb, 1, none⟩ = some (.slice (some ⟨b, off, none⟩) mc cc) := HFW.out.cell 1 (by decide)
          have z1 : W.cell? ⟨gc, 1, none⟩ = some (.slice (some ⟨b', off', none⟩) mc cc') := HGW.out.cell 1 (by decide)
          obtain ⟨F, hF⟩ : ∃ F, F = mcF y := ⟨_, rfl⟩
          obtain ⟨F', hF'⟩ : ∃ F, F = mcF z := ⟨_, rfl⟩
          rw [← hF] at HX
          rw [← hF'] at HX'
          have HFF := Lib.hid hF
          have HFF' := Lib.hid hF'
          clear hF hF'
          iterate 4 still_step
          refine wpStill_load_cells rfl 61 _ rfl b (off + i * 128) rfl 128 F _ HX.out Try.underlying61 rfl sizeClaim ?_
          iterate 4 still_step
          refine wpStill_load_cells rfl 61 _ rfl b' (off' + i * 128) rfl 128 F' _ HX'.out Try.underlying61 rfl sizeClaim ?_
          refine wpStill_nil ?_
          clear z0 z1
          go_wp2_with fail
          go_at_call 43
          rw [HFF.out, HFF'.out]
          obtain ⟨y, yv⟩ := y
          obtain ⟨z, zv⟩ := z
          obtain ⟨A, m, c, hyv, hm, hmc, hR⟩ := HYW.out
          obtain ⟨A', m', c', hzv, hm', hmc', hR'⟩ := HZW.out
          simp only at hyv hzv
          subst hyv hzv
          refine (sameClaim_any W y z A m c A' m' c' hm.out hm'.out hmc.2 (hR.at_ HBW.out.size) (hR'.at_ HBW.out.size)).mono ?_
          rintro e w8 ⟨rfl, hB8⟩
          have HB8 := Lib.hid (HBW.out.trans (hB8.mono HBW.out.size))
          have HF8 := Lib.hid (HFW.out.up hB8)
          have HG8 := Lib.hid (HGW.out.up hB8)
          have HCE3 := Lib.hid (show (sameMb y z && sameCls (d.claims.drop (i + 1)) (d'.claims.drop (i + 1))) = sameDb d d' from HCE2.out)
          clear hm hmc hR hm' hmc' hR' hB8 HYW HZW HFW HGW HBW HCE2 HX HX' HFF HFF'
          cases hs : sameMb y z
          · rw [hs, Bool.false_and] at HCE3
            go_wp2_with fail
            go_ret
            exact ⟨ret_bool HCE3.out, HB8.out⟩
          · rw [hs, Bool.true_and] at HCE3
            go_wp2_with fail
            go_roundw
            case rel => exact ⟨i + 1, by omega, by go_num, HF8.out, HG8.out, HB8.out, by rw [← HE.out]; exact HCE3.out⟩
            case measure => simp [intOf]; omega
        · obtain rfl : i = mc := by omega
          have HE2 := Lib.hid (show true = sameDb d d' by rw [HE.out, ← HCE.out, List.drop_of_length_le (by rw [HLD.out]; exact Nat.le_refl _), List.drop_of_length_le (by rw [HLD'.out]; exact Nat.le_refl _)]; rfl)
          have hlt' : decide (i < i) = false := by simp
          clear hlt hi HCE
          go_wp2_with fail
          go_ret
          exact ⟨ret_bool HE2.out, HB.out⟩
end Go.Proofs.Ytbomihdnnidelaa
