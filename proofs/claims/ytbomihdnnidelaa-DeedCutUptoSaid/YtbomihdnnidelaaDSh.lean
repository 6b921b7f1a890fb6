/- DeedUnlike: two deeds are written as the same bytes exactly if they are the same. -/
import Derived.Test.YtbomihdnnidelaaDSg
namespace Go.Proofs.Ytbomihdnnidelaa
open Go.ChangeShapes Go.WideShapes Go.ChangeAt Go.RowKit
open Dee
set_option linter.unusedVariables false
set_option linter.unusedSimpArgs false
set_option maxRecDepth 100000
theorem all_same {n : Nat} {f g : Nat → Bool} (h : ∀ i, i < n → f i = g i) : (List.range n).all f = (List.range n).all g := by
  rw [Bool.eq_iff_iff, List.all_eq_true, List.all_eq_true]
  constructor
  · intro h1 i hi
    rw [← h i (List.mem_range.1 hi)]; exact h1 i hi
  · intro h1 i hi
    rw [h i (List.mem_range.1 hi)]; exact h1 i hi
theorem mc_toCl {x y : Mc} (h : Mc.same x y) : toCl x = toCl y := by
  obtain ⟨h1, h2, h3⟩ := h
  unfold toCl
  rw [h1, h3]
  have e1 : (List.range 10).map x.G = (List.range 10).map y.G := List.map_congr_left fun i hi => h2 i (by have := List.mem_range.1 hi; omega)
  have e2 : entsF (fun s => x.G (10 + s)) 32 = entsF (fun s => y.G (10 + s)) 32 := entsF_congr 32 fun s hs => h2 (10 + s) (by omega)
  rw [e1, e2]
theorem mc_wrong {x y : Mc} (h : Mc.same x y) : wrongCl x = wrongCl y := by
  obtain ⟨h1, h2, h3⟩ := h
  have e1 : bareB x = bareB y := by
    unfold bareB regsZ stackZ
    rw [h3, all_same (n := 10) (fun i hi => by rw [h2 i (by omega)]), all_same (n := 32) (fun i hi => by rw [h2 (10 + i) (by omega)])]
  have e2 : plainsB x.G = plainsB y.G := by
    unfold plainsB
    rw [all_same (n := 10) (fun i hi => by rw [h2 i (by omega)]), all_same (n := 32) (fun i hi => by rw [h2 (10 + i) (by omega)])]
  unfold wrongCl
  rw [h1, h3, e1, e2]
theorem mc_symm {x y : Mc} (h : Mc.same x y) : Mc.same y x := ⟨h.1.symm, fun k hk => (h.2.1 k hk).symm, h.2.2.symm⟩
theorem mc_trans {x y z : Mc} (h : Mc.same x y) (h' : Mc.same y z) : Mc.same x z := ⟨h.1.trans h'.1, fun k hk => (h.2.1 k hk).trans (h'.2.1 k hk), h.2.2.trans h'.2.2⟩
theorem md_symm {x y : Md} (h : Md.same x y) : Md.same y x := ⟨h.1.symm, h.2.1.symm, fun k a b ha hb => mc_symm (h.2.2 k b a hb ha)⟩
theorem md_trans {x y z : Md} (h : Md.same x y) (h' : Md.same y z) : Md.same x z := ⟨h.1.trans h'.1, h.2.1.trans h'.2.1, fun k a c ha hc => by
  have hk : k < x.claims.length := by
    rcases Nat.lt_or_ge k x.claims.length with h1 | h1
    · exact h1
    · rw [List.getElem?_eq_none h1] at ha; cases ha
  have hb : y.claims[k]? = some (y.claims[k]'(by rw [← h.2.1]; exact hk)) := List.getElem?_eq_getElem _
  exact mc_trans (h.2.2 k a _ ha hb) (h'.2.2 k _ c hb hc)⟩
theorem same_map {β : Type} {f : Mc → β} (hf : ∀ x y, Mc.same x y → f x = f y) {l m : List Mc} (hl : l.length = m.length) (h : ∀ (k : Nat) a b, l[k]? = some a → m[k]? = some b → Mc.same a b) : l.map f = m.map f := by
  apply List.ext_getElem?
  intro k
  rw [List.getElem?_map, List.getElem?_map]
  rcases Nat.lt_or_ge k l.length with h1 | h1
  · have ha : l[k]? = some l[k] := List.getElem?_eq_getElem h1
    have hb : m[k]? = some (m[k]'(by omega)) := List.getElem?_eq_getElem _
    rw [ha, hb]
    show some _ = some _
    rw [hf _ _ (h k _ _ ha hb)]
  · rw [List.getElem?_eq_none h1, List.getElem?_eq_none (by omega)]
theorem clsE_map : ∀ l m : List Mc, l.map wrongCl = m.map wrongCl → clsE l = clsE m
  | [], [], _ => rfl
  | [], b :: t, h => by cases h
  | a :: s, [], h => by cases h
  | a :: s, b :: t, h => by
    rw [List.map_cons, List.map_cons, List.cons.injEq] at h
    unfold clsE
    rw [h.1, clsE_map s t h.2]
theorem same_toDe {d x : Md} (h : Md.same d x) : toDe d = toDe x := by
  unfold toDe
  rw [h.1, same_map (fun _ _ => mc_toCl) h.2.1 h.2.2]
theorem same_wrong {d x : Md} (h : Md.same d x) : wrongMd d = wrongMd x := by
  unfold wrongMd
  rw [h.1, h.2.1, clsE_map _ _ (same_map (fun _ _ => mc_wrong) h.2.1 h.2.2)]
theorem same_enc {d x : Md} (h : Md.same d x) : encD d = encD x := by
  unfold encD
  rw [same_wrong h, same_toDe h]
theorem bytes_same {d x : Md} (hd : wrongMd d = 0) (hx : wrongMd x = 0) (h : deW (toDe d) = deW (toDe x)) : Md.same d x := by
  have h1 := end_back _ (deed_good hd).2
  rw [h, end_back _ (deed_good hx).2] at h1
  injection h1 with h1
  injection h1 with h1
  have h2 := deed_back hx
  rw [h1] at h2
  exact md_trans (md_symm (deed_back hd)) h2
theorem unlike_good {d x : Md} (hd : wrongMd d = 0) (hx : wrongMd x = 0) : decide (deW (toDe d) = deW (toDe x)) = sameDb d x := by
  rw [Bool.eq_iff_iff, decide_eq_true_eq, sameDb_iff]
  exact ⟨bytes_same hd hx, fun h => by rw [same_toDe h]⟩
theorem enc_wrong {d : Md} (h : encD d = 0) : wrongMd d = 0 := by
  unfold encD at h
  by_cases h1 : wrongMd d ≠ 0
  · rw [if_pos h1] at h; exact h
  · simpa using h1
set_option maxHeartbeats 8000000 in
theorem deedUnlike_any (w : World) (vl vc : Value) (d : Md) (vl' vc' : Value) (x : Md) (hat : DeedAt w.heap.size w vl vc d) (hat' : DeedAt w.heap.size w vl' vc' x) (hn1 : d.loops.length ≤ 9223372036854775807) (hn2 : d.claims.length ≤ 9223372036854775807) (hn3 : x.loops.length ≤ 9223372036854775807) (hn4 : x.claims.length ≤ 9223372036854775807) :
    Calls Try.prog 9 #[.agg (arr 2 (deF vl vc)), .agg (arr 2 (deF vl' vc'))] w (RetB w (.bool true)) := by
  have HD0 := Lib.hid hat
  have HE0 := Lib.hid hat'
  clear hat hat'
  obtain ⟨T, hT⟩ : ∃ T, T = deF vl vc := ⟨_, rfl⟩
  obtain ⟨U, hU⟩ : ∃ T, T = deF vl' vc' := ⟨_, rfl⟩
  have HTT := Lib.hid hT
  have HUU := Lib.hid hU
  rw [← hT, ← hU]
  clear hT hU
  go_enter Try.func9, Try.ntmps9
  go_upto_region 1 with (first | (refine wpList_box_seg rfl _ (.tmp 0) rfl 2 T rfl ?_; intro w1 h1 hB1 hs1) | (refine wpList_box_seg rfl _ (.tmp 1) rfl 2 U rfl ?_; intro w2 h2 hB2 hs2))
  obtain ⟨gb, hgb⟩ : ∃ gb, gb = w.heap.size := ⟨_, rfl⟩
  obtain ⟨gc, hgc⟩ : ∃ gb, gb = w.heap.size + 1 := ⟨_, rfl⟩
  rw [← hgc, ← hgb]
  rw [← hgb] at h1
  rw [show w1.heap.size = gc by rw [hgc]; exact hs1] at h2
  have HF0 := Lib.hid (h1.up hB2)
  have HG0 := Lib.hid h2
  have hbw := hB1.trans (hB2.mono hB1.size)
  have HB0 := Lib.hid hbw
  have HD2 := Lib.hid (HD0.out.up hbw)
  have HE2 := Lib.hid (HE0.out.up hbw)
  clear h1 hB1 hs1 h2 hB2 hs2 hgb hgc hbw HD0 HE0
  go_wp2_with fail
  refine (known_any w2).mono ?_
  rintro e w3 ⟨rfl, hB3⟩
  have HF3 := Lib.hid (HF0.out.up hB3)
  have HG3 := Lib.hid (HG0.out.up hB3)
  have HB3 := Lib.hid (HB0.out.trans (hB3.mono HB0.out.size))
  have HD3 := Lib.hid (HD2.out.up hB3)
  have HE3 := Lib.hid (HE2.out.up hB3)
  clear hB3 HF0 HG0 HB0 HD2 HE2
  go_wp2_with (refine wpList_load_all rfl 26 _ rfl gb rfl 26 2 T _ HF3.out Try.underlying26 rfl sizeDeed ?_)
  go_at_call 13
  rw [HTT.out]
  refine (encode_any w3 _ _ d HD3.out).mono ?_
  rintro e w4 ⟨hB4, v, rfl, hv⟩
  rw [← HTT.out]
  have HF4 := Lib.hid (HF3.out.up hB4)
  have HG4 := Lib.hid (HG3.out.up hB4)
  have HB4 := Lib.hid (HB3.out.trans (hB4.mono HB3.out.size))
  have HD4 := Lib.hid (HD3.out.up hB4)
  have HE4 := Lib.hid (HE3.out.up hB4)
  have HV4 := Lib.hid hv
  clear hB4 hv HF3 HG3 HB3 HD3 HE3
  obtain ⟨ed, hed⟩ : ∃ e, e = encD d := ⟨_, rfl⟩
  rw [← hed] at HV4 ⊢
  have HED := Lib.hid hed
  clear hed
  go_wp2_with (refine wpList_load_all rfl 26 _ rfl gc rfl 26 2 U _ HG4.out Try.underlying26 rfl sizeDeed ?_)
  go_at_call 13
  rw [HUU.out]
  refine (encode_any w4 _ _ x HE4.out).mono ?_
  rintro e w5 ⟨hB5, v', rfl, hv'⟩
  rw [← HUU.out]
  have HF5 := Lib.hid (HF4.out.up hB5)
  have HG5 := Lib.hid (HG4.out.up hB5)
  have HB5 := Lib.hid (HB4.out.trans (hB5.mono HB4.out.size))
  have HD5 := Lib.hid (HD4.out.up hB5)
  have HE5 := Lib.hid (HE4.out.up hB5)
  have HV5 := Lib.hid hv'
  have HUP := Lib.hid hB5
  clear hB5 hv' HF4 HG4 HB4 HD4 HE4
  obtain ⟨ex, hex⟩ : ∃ e, e = encD x := ⟨_, rfl⟩
  rw [← hex] at HV5 ⊢
  have HEX := Lib.hid hex
  clear hex
  by_cases hz : ed = 0 ∧ ex = 0
  · obtain ⟨rfl, rfl⟩ := hz
    have HV4' := HV4.out
    have HV5' := HV5.out
    rw [if_pos rfl] at HV4' HV5'
    obtain ⟨hw1, ho1⟩ := HV4'
    obtain ⟨hw2, ho2⟩ := HV5'
    obtain ⟨A1, c1, rfl, hA1⟩ := ho1.form
    obtain ⟨A2, c2, rfl, hA2⟩ := ho2.form
    have HA1 := Lib.hid (bytes_below hA1 HUP.out)
    have HA2 := Lib.hid hA2
    have HUG := Lib.hid (unlike_good hw1 hw2)
    have HY1 := Lib.hid (de_codec.bytes _ (deed_good hw1).2)
    have HY2 := Lib.hid (de_codec.bytes _ (deed_good hw2).2)
    obtain ⟨L1, hL1⟩ : ∃ L, L = deW (toDe d) := ⟨_, rfl⟩
    obtain ⟨L2, hL2⟩ : ∃ L, L = deW (toDe x) := ⟨_, rfl⟩
    rw [← hL1] at HA1 HY1 HUG ⊢
    rw [← hL2] at HA2 HY2 HUG ⊢
    clear hw1 ho1 hw2 ho2 hA1 hA2 hL1 hL2 HV4 HV5 HUP
    go_upto_region 7 with fail
    refine wp_region_tail 5 (by kernel_rfl) (by kernel_rfl) fun W hW => ?_
    simp only [List.take_succ_cons, List.take_zero, List.drop_succ_cons, List.drop_zero]
    have hbd : Below w5.heap.size w5 W := by rw [hW]; exact (Below.refl _ _).drew
    have HBW := Lib.hid (HB5.out.trans (hbd.mono HB5.out.size))
    have HFW := Lib.hid (fb_at (HF5.out.up hbd))
    have HGW := Lib.hid (fb_at (HG5.out.up hbd))
    have HDW := Lib.hid (HD5.out.up hbd)
    have HEW := Lib.hid (HE5.out.up hbd)
    have HSB := Lib.hid ((sameBytes_any W A1 L1.length c1 A2 L2.length c2 L1 L2 rfl rfl (bytes_below HA1.out hbd) (bytes_below HA2.out hbd) HY1.out HY2.out).mono (R' := fun e w'' => e = .returned (.bool (decide (L1 = L2))) ∧ w'' = W) fun e w' h => ⟨h.1, h.2.symm⟩)
    clear hW hbd HF5 HG5 HB5 HD5 HE5 HA1 HA2
    obtain ⟨n1, hn1'⟩ : ∃ n, n = L1.length := ⟨_, rfl⟩
    obtain ⟨n2, hn2'⟩ : ∃ n, n = L2.length := ⟨_, rfl⟩
    rw [← hn1', ← hn2'] at HSB
    rw [← hn1', ← hn2']
    clear hn1' hn2'
    iterate 2 still_step
    still_call HSB.out
    refine wpStill_load_cells rfl 26 _ rfl gb 0 rfl 2 T _ HFW.out Try.underlying26 rfl sizeDeed ?_
    refine wpStill_load_cells rfl 26 _ rfl gc 0 rfl 2 U _ HGW.out Try.underlying26 rfl sizeDeed ?_
    refine wpStill_nil ?_
    go_wp2_with fail
    go_at_call 22
    rw [HTT.out, HUU.out]
    refine (sameDeed_any W _ _ _ _ d x HDW.out HEW.out hn1 hn2).mono ?_
    rintro e w6 ⟨rfl, hB6⟩
    have HB6 := Lib.hid (HBW.out.trans (hB6.mono HBW.out.size))
    rw [← HUG.out]
    clear hB6 HUG HSB
    obtain ⟨r, hr⟩ : ∃ r, r = decide (L1 = L2) := ⟨_, rfl⟩
    rw [← hr]
    clear hr
    go_wp2_with fail
    go_ret
    exact ⟨ret_bool (by cases r <;> rfl), HB6.out⟩
  · have HSE := Lib.hid (show sameDb d x = true → ed = ex from fun h => by rw [HED.out, HEX.out]; exact same_enc (sameDb_iff.1 h))
    by_cases h1 : ed = 0
    · have h2 : ¬ ex = 0 := fun h => hz ⟨h1, h⟩
      subst h1
      have t2 : (ex == 0) = false := by rw [beq_eq_false_iff_ne]; exact h2
      clear hz h2
      go_wp2_with (first
        | (refine wpList_load_all rfl 26 _ rfl gb rfl 26 2 T _ HF5.out Try.underlying26 rfl sizeDeed ?_)
        | (refine wpList_load_all rfl 26 _ rfl gc rfl 26 2 U _ HG5.out Try.underlying26 rfl sizeDeed ?_))
      go_at_call 22
      rw [HTT.out, HUU.out]
      refine (sameDeed_any w5 _ _ _ _ d x HD5.out HE5.out hn1 hn2).mono ?_
      rintro e w6 ⟨rfl, hB6⟩
      have HB6 := Lib.hid (HB5.out.trans (hB6.mono HB5.out.size))
      cases hs : sameDb d x
      · go_wp2_with fail
        go_ret
        exact ⟨rfl, HB6.out⟩
      · have := HSE.out hs
        rw [← this] at t2
        exact absurd t2 (by decide)
    · have t1 : (ed == 0) = false := by rw [beq_eq_false_iff_ne]; exact h1
      clear hz h1
      go_wp2_with (first
        | (refine wpList_load_all rfl 26 _ rfl gb rfl 26 2 T _ HF5.out Try.underlying26 rfl sizeDeed ?_)
        | (refine wpList_load_all rfl 26 _ rfl gc rfl 26 2 U _ HG5.out Try.underlying26 rfl sizeDeed ?_))
      go_at_call 22
      rw [HTT.out, HUU.out]
      refine (sameDeed_any w5 _ _ _ _ d x HD5.out HE5.out hn1 hn2).mono ?_
      rintro e w6 ⟨rfl, hB6⟩
      have HB6 := Lib.hid (HB5.out.trans (hB6.mono HB5.out.size))
      cases hs : sameDb d x
      · go_wp2_with fail
        go_ret
        exact ⟨rfl, HB6.out⟩
      · have te := HSE.out hs
        subst te
        have t3 : (ed == ed) = true := by simp
        go_wp2_with fail
        go_ret
        exact ⟨rfl, HB6.out⟩
end Go.Proofs.Ytbomihdnnidelaa
