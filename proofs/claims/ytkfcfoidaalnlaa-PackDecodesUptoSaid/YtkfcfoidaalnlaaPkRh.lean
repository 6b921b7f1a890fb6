/- Package pack: the document's own Decode. Laid by wip/tools/mkpkrh.py. -/
import Derived.Test.YtkfcfoidaalnlaaPkRg
import Derived.Test.YtkfcfoidaalnlaaDraw
import Derived.Deep.DeepCutAuto
namespace Go.Proofs.Ytkfcfoidaalnlaa.Pak
open Go.ChangeShapes Go.WideShapes Go.ChangeAt Go.RowKit
set_option linter.unusedVariables false
set_option linter.unusedSimpArgs false
set_option maxRecDepth 100000
theorem zeroTabR : (Try.prog.info? 60).bind (fun i => i.zero.map Value.cells) = some (arr 2 (tabF (0, 0))) := by kernel_rfl
theorem infTabR : (Try.prog.info? 60).map (fun i => (i.zero.map Value.cells, i.size, i.bytes)) = some (some (arr 2 (tabF (0, 0))), 2, 16) := by kernel_rfl
theorem tabF_one2 (x : Int × Int) : ∀ q, q < 2 → (tabF x q).oneCell' = true := fun q hq => by rcases (show q = 0 ∨ q = 1 by omega) with rfl | rfl <;> rfl
theorem ownB_blk {W : World} {base b : Nat} {v : Value} {L : List Int} (h : OwnB W base v L) (hb : v.ownBlock = some b) : ∃ cs, Blk W b 5 cs := by
  rcases h.2 with ⟨h1, -⟩ | ⟨g, cap, cur, e, hg, hh, -⟩
  · rw [h1] at hb; cases hb
  · rw [e] at hb
    injection hb with hb
    subst hb
    exact ⟨cur, hh⟩
/-- the container that is being read, and the result's cell -/
structure RhS (w : World) (g2 gk : Nat) (last : Int) (k : Pk) (vd vt vc : Value) (W : World) : Prop where
  pk : PkB W gk w.heap.size k vd vt vc
  res : FB W g2 25 5 zeroPkF
  below : Below w.heap.size w W
  ne : g2 ≠ gk ∧ w.heap.size ≤ g2 ∧ w.heap.size ≤ gk
  e2 : last < 2 → vt = .slice none 0 0 ∧ k.tabs = []
  e3 : last < 3 → vd = .slice none 0 0 ∧ k.data = []
  e4 : last < 4 → vc = .slice none 0 0 ∧ k.code = []
section
variable {w : World} {g2 gk : Nat} {last : Int} {k : Pk} {vd vt vc : Value} {W W' : World}
theorem RhS.up (h : RhS w g2 gk last k vd vt vc W) (hb : Below W.heap.size W W') : RhS w g2 gk last k vd vt vc W' :=
  ⟨h.pk.up hb, h.res.up hb, h.below.trans (hb.mono h.below.size), h.ne, h.e2, h.e3, h.e4⟩
theorem RhS.on {last' : Int} (h : RhS w g2 gk last k vd vt vc W) (hl : last ≤ last') : RhS w g2 gk last' k vd vt vc W :=
  ⟨h.pk, h.res, h.below, h.ne, fun e => h.e2 (by omega), fun e => h.e3 (by omega), fun e => h.e4 (by omega)⟩
/-- a number of the container is stored -/
theorem RhS.lo (h : RhS w g2 gk last k vd vt vc W) (x : Int) : RhS w g2 gk last { k with lo := x } vd vt vc (W.setCell ⟨gk, 0, none⟩ (.int .i64 x)) := by
  have ht : Touch gk W (W.setCell ⟨gk, 0, none⟩ (.int .i64 x)) := Touch.set_ W 0 _
  refine ⟨⟨?_, ownB_touch h.pk.data ht h.pk.blk (by decide), ownT_touch h.pk.tabs ht h.pk.blk (by decide), ownB_touch h.pk.code ht h.pk.blk (by decide), h.pk.dc⟩, h.res.touch ht h.ne.1, h.below.trans (ht.below h.ne.2.2 h.below.size), h.ne, h.e2, h.e3, h.e4⟩
  refine (h.pk.blk.set_ 0 _).congr fun p hp => ?_
  rcases (show p = 0 ∨ p = 1 ∨ p = 2 ∨ p = 3 ∨ p = 4 by omega) with rfl | rfl | rfl | rfl | rfl <;> rfl
theorem RhS.hi (h : RhS w g2 gk last k vd vt vc W) (x : Int) : RhS w g2 gk last { k with hi := x } vd vt vc (W.setCell ⟨gk, 1, none⟩ (.int .i64 x)) := by
  have ht : Touch gk W (W.setCell ⟨gk, 1, none⟩ (.int .i64 x)) := Touch.set_ W 1 _
  refine ⟨⟨?_, ownB_touch h.pk.data ht h.pk.blk (by decide), ownT_touch h.pk.tabs ht h.pk.blk (by decide), ownB_touch h.pk.code ht h.pk.blk (by decide), h.pk.dc⟩, h.res.touch ht h.ne.1, h.below.trans (ht.below h.ne.2.2 h.below.size), h.ne, h.e2, h.e3, h.e4⟩
  refine (h.pk.blk.set_ 1 _).congr fun p hp => ?_
  rcases (show p = 0 ∨ p = 1 ∨ p = 2 ∨ p = 3 ∨ p = 4 by omega) with rfl | rfl | rfl | rfl | rfl <;> rfl
theorem RhS.grown_blk (h : RhS w g2 gk last k vd vt vc W) (hg : W.grownBy W' vt.ownBlock) : FB W' gk 25 5 (pkF k.lo k.hi vd vt vc) :=
  (hg.block gk h.pk.blk.lt (fun e => own_blk_ne h.pk.tabs h.pk.blk (by decide) e.symm)).trans h.pk.blk
/-- the tables grow in memory: but for their row all stays -/
theorem RhS.tabs (h : RhS w g2 gk 2 k vd vt vc W) {v' : Value} {l : List (Int × Int)} {w1 : World} (hb : Below w.heap.size W w1) (hg : W.grownBy w1 vt.ownBlock) (ho : OwnR 60 2 tabF w1 w.heap.size v' l) : RhS w g2 gk 2 { k with tabs := l } vd v' vc (w1.setCell ⟨gk, 3, none⟩ v') := by
  have hne : ∀ {t : TypeId} {cs : Array Value} {x : Nat}, Blk W x t cs → 60 ≠ t → Blk w1 x t cs := fun {t cs x} hx ht => (hg.block x hx.lt (fun e => own_blk_ne h.pk.tabs hx ht e.symm)).trans hx
  have hbk := hne h.pk.blk (by decide)
  have ht : Touch gk w1 (w1.setCell ⟨gk, 3, none⟩ v') := Touch.set_ w1 3 _
  have hbb : ∀ {v : Value} {L : List Int}, OwnB W w.heap.size v L → OwnB w1 w.heap.size v L := fun {v L} hv => by
    refine own_keep hv fun b hob hlt => hg.block b hlt fun e => ?_
    obtain ⟨cs, hc⟩ := ownB_blk hv hob
    exact own_blk_ne h.pk.tabs hc (by decide) e.symm
  refine ⟨⟨?_, ownB_touch (hbb h.pk.data) ht hbk (by decide), ownT_touch ho ht hbk (by decide), ownB_touch (hbb h.pk.code) ht hbk (by decide), h.pk.dc⟩, FB.touch (hne h.res (by decide)) ht h.ne.1, (h.below.trans hb).trans (ht.below h.ne.2.2 (Nat.le_trans h.below.size hb.size)), h.ne, fun e => absurd e (by decide), h.e3, h.e4⟩
  refine (FB.set_ (show FB w1 gk 25 5 _ from hbk) 3 _).congr fun p hp => ?_
  rcases (show p = 0 ∨ p = 1 ∨ p = 2 ∨ p = 3 ∨ p = 4 by omega) with rfl | rfl | rfl | rfl | rfl <;> rfl
theorem RhS.data (h : RhS w g2 gk 2 k vd vt vc W) {v' : Value} {L : List Int} (hb : Below W.heap.size W W') (ho : OwnB W' W.heap.size v' L) : RhS w g2 gk 3 { k with data := L } v' vt vc (W'.setCell ⟨gk, 2, none⟩ v') := by
  have hu := h.up hb
  have ht : Touch gk W' (W'.setCell ⟨gk, 2, none⟩ v') := Touch.set_ W' 2 _
  refine ⟨⟨?_, ownB_touch (OwnB_base ho h.below.size) ht hu.pk.blk (by decide), ownT_touch hu.pk.tabs ht hu.pk.blk (by decide), ownB_touch hu.pk.code ht hu.pk.blk (by decide), fun b hb e => by have h1 := (ownB_lt ho hb).1; have h2 := (ownB_lt h.pk.code e).2; omega⟩, hu.res.touch ht h.ne.1, hu.below.trans (ht.below h.ne.2.2 hu.below.size), h.ne, fun e => absurd e (by decide), fun e => absurd e (by decide), fun e => h.e4 (by omega)⟩
  refine (hu.pk.blk.set_ 2 _).congr fun p hp => ?_
  rcases (show p = 0 ∨ p = 1 ∨ p = 2 ∨ p = 3 ∨ p = 4 by omega) with rfl | rfl | rfl | rfl | rfl <;> rfl
theorem RhS.code (h : RhS w g2 gk 3 k vd vt vc W) {v' : Value} {L : List Int} (hb : Below W.heap.size W W') (ho : OwnB W' W.heap.size v' L) : RhS w g2 gk 4 { k with code := L } vd vt v' (W'.setCell ⟨gk, 4, none⟩ v') := by
  have hu := h.up hb
  have ht : Touch gk W' (W'.setCell ⟨gk, 4, none⟩ v') := Touch.set_ W' 4 _
  refine ⟨⟨?_, ownB_touch hu.pk.data ht hu.pk.blk (by decide), ownT_touch hu.pk.tabs ht hu.pk.blk (by decide), ownB_touch (OwnB_base ho h.below.size) ht hu.pk.blk (by decide), fun b hb e => by have h1 := (ownB_lt ho e).1; have h2 := (ownB_lt h.pk.data hb).2; omega⟩, hu.res.touch ht h.ne.1, hu.below.trans (ht.below h.ne.2.2 hu.below.size), h.ne, fun e => absurd e (by decide), fun e => absurd e (by decide), fun e => absurd e (by decide)⟩
  refine (hu.pk.blk.set_ 4 _).congr fun p hp => ?_
  rcases (show p = 0 ∨ p = 1 ∨ p = 2 ∨ p = 3 ∨ p = 4 by omega) with rfl | rfl | rfl | rfl | rfl <;> rfl
end

theorem mark_num {L : List Int} (hY : Bytes L) (h : 4 ≤ L.length) : L.take 4 = mark ↔ num (L.take 4) = 827019351 := by
  constructor
  · intro e; rw [e]; rfl
  · intro e
    have h1 := le_num (L.take 4) (hY.take 4)
    rw [List.length_take, Nat.min_eq_left h, e] at h1
    rw [← h1]; rfl
set_option maxHeartbeats 8000000 in
theorem rdecode_any (w : World) (A : Option Addr) (n c : Nat) (L : List Int) (hS : Sl w A n c L) (hY : Bytes L) :
    Calls Try.prog 32 #[.slice A n c] w fun e w' => Below w.heap.size w w' ∧ DecRes w w' (decP L) e := by
  obtain ⟨r, hr⟩ : ∃ r, r = decP L := ⟨_, rfl⟩
  rw [← hr]
  have HR := Lib.hid hr
  have HS := Lib.hid hS
  have HY := Lib.hid hY
  have HLN := Lib.hid hS.len.out
  clear hr hS hY
  by_cases h1 : 131072 < n
  · have HRE := Lib.hid (show r = .error (0, 2) by rw [HR.out]; unfold decP; rw [if_pos (by rw [HLN.out]; exact h1)])
    have t1 : (131072 : Int) < n := by omega
    go_enter Try.func32, Try.ntmps32
    go_upto_region 2 with (first
      | (refine wpList_alloc_seg (w := w) rfl 25 rfl 5 zeroPkF zeroPk ?_; intro w1 k1 hB1 hs1; clear hs1)
      | (refine wpList_alloc_seg rfl 25 rfl 5 zeroPkF zeroPk ?_; intro w2 k2 hB2 hs2; clear hs2))
    obtain ⟨g2, hg2⟩ : ∃ g, g = w.heap.size := ⟨_, rfl⟩
    obtain ⟨gk, hgk⟩ : ∃ g, g = w1.heap.size := ⟨_, rfl⟩
    rw [← hg2] at k1 ⊢
    rw [← hgk] at k2 ⊢
    have hb2 : Below w.heap.size w w2 := hB1.trans (hB2.mono hB1.size)
    have HS0 := Lib.hid (show RhS w g2 gk 0 Pk.none (.slice none 0 0) (.slice none 0 0) (.slice none 0 0) w2 from ⟨⟨k2, OwnB.nil _ _, OwnR.nil _ _ _ _ _, OwnB.nil _ _, fun b hb => by cases hb⟩, k1.up hB2, hb2, ⟨by have := k1.lt; omega, by omega, by have := hB1.size; omega⟩, fun _ => ⟨rfl, rfl⟩, fun _ => ⟨rfl, rfl⟩, fun _ => ⟨rfl, rfl⟩⟩)
    clear k1 hB1 k2 hB2 hb2 hg2 hgk
    go_wp2_with (first
      | (refine wpList_load_all rfl 25 _ rfl gk rfl 25 5 zeroPkF _ HS0.out.pk.blk Try.underlying25 rfl sizePk ?_)
      | (refine wpList_store_all rfl 25 _ _ rfl g2 25 5 _ zeroPkF rfl rfl HS0.out.res sizePk (pkF_one rfl rfl rfl) ?_; intro w9 h9 hT9 hs9))
    refine bodyPost_ret (result_ctt rfl _ _ _ _ g2 _ 5 _ _ rfl h9 Try.underlying25 rfl sizePk rfl rfl) rfl ⟨HS0.out.below.trans (hT9.below HS0.out.ne.2.1 HS0.out.below.size), ?_⟩
    rw [HRE.out]
    exact rfl
  have t1 : ¬ ((131072 : Int) < n) := by omega
  by_cases h2 : n < 8
  · have HRE := Lib.hid (show r = .error (n, 120) by rw [HR.out]; unfold decP; rw [if_neg (by rw [HLN.out]; exact h1), if_pos (by rw [HLN.out]; exact h2), HLN.out])
    have t2 : (n : Int) < 8 := by omega
    go_enter Try.func32, Try.ntmps32
    go_upto_region 2 with (first
      | (refine wpList_alloc_seg (w := w) rfl 25 rfl 5 zeroPkF zeroPk ?_; intro w1 k1 hB1 hs1; clear hs1)
      | (refine wpList_alloc_seg rfl 25 rfl 5 zeroPkF zeroPk ?_; intro w2 k2 hB2 hs2; clear hs2))
    obtain ⟨g2, hg2⟩ : ∃ g, g = w.heap.size := ⟨_, rfl⟩
    obtain ⟨gk, hgk⟩ : ∃ g, g = w1.heap.size := ⟨_, rfl⟩
    rw [← hg2] at k1 ⊢
    rw [← hgk] at k2 ⊢
    have hb2 : Below w.heap.size w w2 := hB1.trans (hB2.mono hB1.size)
    have HS0 := Lib.hid (show RhS w g2 gk 0 Pk.none (.slice none 0 0) (.slice none 0 0) (.slice none 0 0) w2 from ⟨⟨k2, OwnB.nil _ _, OwnR.nil _ _ _ _ _, OwnB.nil _ _, fun b hb => by cases hb⟩, k1.up hB2, hb2, ⟨by have := k1.lt; omega, by omega, by have := hB1.size; omega⟩, fun _ => ⟨rfl, rfl⟩, fun _ => ⟨rfl, rfl⟩, fun _ => ⟨rfl, rfl⟩⟩)
    clear k1 hB1 k2 hB2 hb2 hg2 hgk
    go_wp2_with (first
      | (refine wpList_load_all rfl 25 _ rfl gk rfl 25 5 zeroPkF _ HS0.out.pk.blk Try.underlying25 rfl sizePk ?_)
      | (refine wpList_store_all rfl 25 _ _ rfl g2 25 5 _ zeroPkF rfl rfl HS0.out.res sizePk (pkF_one rfl rfl rfl) ?_; intro w9 h9 hT9 hs9))
    refine bodyPost_ret (result_ctt rfl _ _ _ _ g2 _ 5 _ _ rfl h9 Try.underlying25 rfl sizePk rfl rfl) rfl ⟨HS0.out.below.trans (hT9.below HS0.out.ne.2.1 HS0.out.below.size), ?_⟩
    rw [HRE.out]
    exact rfl
  obtain ⟨E, rfl⟩ : ∃ E, n = E + 4 := ⟨n - 4, by omega⟩
  have HRD := Lib.hid (show r = (if L.take 4 ≠ mark then .error (0, 120) else if num (L.drop E) ≠ sumN (L.take E) then .error (E, 124) else
      match packR 0 Pk.none ((L.take E).drop 4) with
      | .ok k => .ok k
      | .error (lf, er) => .error (E - lf, er)) by
    rw [HR.out]; unfold decP
    rw [if_neg (by rw [HLN.out]; exact h1), if_neg (by rw [HLN.out]; exact h2), HLN.out, Nat.add_sub_cancel]
    rfl)
  obtain ⟨b, off, hA, -, -⟩ := HS.out.byt (by have := HLN.out; omega)
  subst hA
  have HBL := Lib.hid (HS.out.lt b off rfl)
  have HA := Lib.hid HS.out.byt
  have hEc : E + 4 ≤ c := HS.out.cap
  have hE4 : 4 ≤ E := by omega
  have hE1 : E ≤ 131068 := by omega
  have t2 : ¬ ((E : Int) + 4 < 8) := by omega
  have t1' : ¬ ((131072 : Int) < (E : Int) + 4) := by omega
  have c4 : (4 : Int) ≤ c := by omega
  have c4n : 4 ≤ c := by omega
  clear h1 h2 t1 HR HS
  go_enter Try.func32, Try.ntmps32
  go_upto_region 2 with (first
    | (refine wpList_alloc_seg (w := w) rfl 25 rfl 5 zeroPkF zeroPk ?_; intro w1 k1 hB1 hs1; clear hs1)
    | (refine wpList_alloc_seg rfl 25 rfl 5 zeroPkF zeroPk ?_; intro w2 k2 hB2 hs2; clear hs2))
  obtain ⟨g2, hg2⟩ : ∃ g, g = w.heap.size := ⟨_, rfl⟩
  obtain ⟨gk, hgk⟩ : ∃ g, g = w1.heap.size := ⟨_, rfl⟩
  rw [← hg2] at k1 ⊢
  rw [← hgk] at k2 ⊢
  have hb2 : Below w.heap.size w w2 := hB1.trans (hB2.mono hB1.size)
  have HS0 := Lib.hid (show RhS w g2 gk 0 Pk.none (.slice none 0 0) (.slice none 0 0) (.slice none 0 0) w2 from ⟨⟨k2, OwnB.nil _ _, OwnR.nil _ _ _ _ _, OwnB.nil _ _, fun b hb => by cases hb⟩, k1.up hB2, hb2, ⟨by have := k1.lt; omega, by omega, by have := hB1.size; omega⟩, fun _ => ⟨rfl, rfl⟩, fun _ => ⟨rfl, rfl⟩, fun _ => ⟨rfl, rfl⟩⟩)
  clear k1 hB1 k2 hB2 hb2 hg2 hgk
  obtain ⟨m4, hm4⟩ : ∃ z, z = num (L.take 4) := ⟨_, rfl⟩
  have HM4 := Lib.hid hm4
  have HV4 := Lib.hid (fun c' => rvalue_any w2 (some ⟨b, off, none⟩) 4 c' (L.take 4) (by rw [List.length_take]; have := HLN.out; omega) (by decide) (HY.out.take 4) (by
    have := bytes_part (p := 0) (m := 4) (M := L.take 4) (HA.out.below HS0.out.below) rfl (by have := HLN.out; omega)
    rwa [Nat.add_zero] at this))
  rw [← hm4] at HV4
  clear hm4
  by_cases hmk : L.take 4 = mark
  case neg =>
    have HRE := Lib.hid (show r = .error (0, 120) by rw [HRD.out, if_pos hmk])
    have q1 : (m4 != 827019351) = true := by rw [bne_iff_ne, HM4.out]; exact fun e => hmk ((mark_num HY.out (by have := HLN.out; omega)).2 e)
    go_upto_region 7 with (go_at_call 45; refine (HV4.out _).mono ?_; rintro e w3 ⟨rfl, rfl⟩)
    go_wp2_with (first
      | (refine wpList_load_all rfl 25 _ rfl gk rfl 25 5 zeroPkF _ HS0.out.pk.blk Try.underlying25 rfl sizePk ?_)
      | (refine wpList_store_all rfl 25 _ _ rfl g2 25 5 _ zeroPkF rfl rfl HS0.out.res sizePk (pkF_one rfl rfl rfl) ?_; intro w9 h9 hT9 hs9))
    refine bodyPost_ret (result_ctt rfl _ _ _ _ g2 _ 5 _ _ rfl h9 Try.underlying25 rfl sizePk rfl rfl) rfl ⟨HS0.out.below.trans (hT9.below HS0.out.ne.2.1 HS0.out.below.size), ?_⟩
    rw [HRE.out]
    exact rfl
  have q1 : (m4 != 827019351) = false := by rw [bne_eq_false_iff_eq, HM4.out]; exact (mark_num HY.out (by have := HLN.out; omega)).1 hmk
  have HRD2 := Lib.hid (show r = (if num (L.drop E) ≠ sumN (L.take E) then .error (E, 124) else
      match packR 0 Pk.none ((L.take E).drop 4) with
      | .ok k => .ok k
      | .error (lf, er) => .error (E - lf, er)) by rw [HRD.out, if_neg (by rw [hmk]; simp)])
  clear hmk HRD
  go_upto_region 9 with (go_at_call 45; refine (HV4.out _).mono ?_; rintro e w3 ⟨rfl, rfl⟩)
  clear HV4 HM4 q1
  obtain ⟨s4, hs4⟩ : ∃ z, z = num (L.drop E) := ⟨_, rfl⟩
  obtain ⟨ss, hss⟩ : ∃ z : Nat, z = sumN (L.take E) := ⟨_, rfl⟩
  have HVE := Lib.hid (fun W c' (h : Below w.heap.size w W) => rvalue_any W (some ⟨b, off + E, none⟩) 4 c' (L.drop E) (by rw [List.length_drop]; have := HLN.out; omega) (by decide) (HY.out.drop E) (bytes_part (p := E) (m := 4) (M := L.drop E) (HA.out.below h) (by rw [List.take_of_length_le]; rw [List.length_drop]; have := HLN.out; omega) (by have := HLN.out; omega)))
  have HSE := Lib.hid (fun W c' (h : Below w.heap.size w W) => rsum_any W (some ⟨b, off, none⟩) E c' (L.take E) (by rw [List.length_take]; have := HLN.out; omega) (by omega) (HY.out.take E) (by
    have := bytes_part (p := 0) (m := E) (M := L.take E) (HA.out.below h) rfl (by have := HLN.out; omega)
    rwa [Nat.add_zero] at this))
  rw [← hs4] at HVE
  rw [← hss] at HSE
  have HX4 := Lib.hid hs4
  have HXS := Lib.hid hss
  clear hs4 hss
  have cE : (E : Int) ≤ c := by omega
  have cEn : E ≤ c := by omega
  have cne : ¬ (c = E) := by omega
  have cEf : ¬ ((E : Int) + 4 < E) := by omega
  go_upto_region 9 with fail
  go_cut [40] (fun a40 wx => ∃ W, W = wx ∧ ∃ q : Bool, a40 = .bool q ∧ Hid (q = (s4 != (ss : Int))) ∧ RhS w g2 gk 0 Pk.none (.slice none 0 0) (.slice none 0 0) (.slice none 0 0) W)
  case first =>
    refine wp_region_held_drew (S := fun W => RhS w g2 gk 0 Pk.none (.slice none 0 0) (.slice none 0 0) (.slice none 0 0) W) (by kernel_rfl) (HS0.out.up (below_drewN (Below.refl _ _) 1)) (fun hHeld => ?_)
    refine wpAnyH_take (i := 0) (oi := { dst := some 32, op := Op.move (Operand.tmp 0), type := 22, pos := "ref.go:150", after := #[], guard := none }) (v := .slice (some ⟨b, off, none⟩) (E + 4) c) rfl (by kernel_rfl) (by kernel_rfl) (by kernel_rfl) (fun _ _ _ h => h) (Or.inl ⟨by rfl, ?_⟩) (by assumption) ?_
    · intro w hSw
      go_simp
    try simp only [Act.put, List.setIfInBounds_toArray, List.set_cons_zero, List.set_cons_succ]
    refine wpAnyH_take (i := 1) (oi := { dst := some 33, op := Op.move (Operand.tmp 6), type := 3, pos := "ref.go:150", after := #[], guard := none }) (v := .int .i64 E) rfl (by kernel_rfl) (by kernel_rfl) (by kernel_rfl) (fun _ _ _ h => h) (Or.inl ⟨by rfl, ?_⟩) (by assumption) ?_
    · intro w hSw
      go_simp
    try simp only [Act.put, List.setIfInBounds_toArray, List.set_cons_zero, List.set_cons_succ]
    refine wpAnyH_take (i := 2) (oi := { dst := some 34, op := Op.slice 22 (Operand.tmp 32) (some (Operand.tmp 33)) none none, type := 22, pos := "ref.go:150", after := #[{ on := 0, ground := Ground.data }, { on := 1, ground := Ground.data }], guard := none }) (v := .slice (some ⟨b, off + E, none⟩) 4 (c - E)) rfl (by kernel_rfl) (by kernel_rfl) (by kernel_rfl) (fun _ _ _ h => h) (Or.inl ⟨by rfl, ?_⟩) (by assumption) ?_
    · intro w hSw
      go_simp
    try simp only [Act.put, List.setIfInBounds_toArray, List.set_cons_zero, List.set_cons_succ]
    refine wpAnyH_take (i := 4) (oi := { dst := some 36, op := Op.move (Operand.tmp 0), type := 22, pos := "ref.go:150", after := #[], guard := none }) (v := .slice (some ⟨b, off, none⟩) (E + 4) c) rfl (by kernel_rfl) (by kernel_rfl) (by kernel_rfl) (fun _ _ _ h => h) (Or.inl ⟨by rfl, ?_⟩) (by assumption) ?_
    · intro w hSw
      go_simp
    try simp only [Act.put, List.setIfInBounds_toArray, List.set_cons_zero, List.set_cons_succ]
    refine wpAnyH_take (i := 5) (oi := { dst := some 37, op := Op.move (Operand.tmp 6), type := 3, pos := "ref.go:150", after := #[], guard := none }) (v := .int .i64 E) rfl (by kernel_rfl) (by kernel_rfl) (by kernel_rfl) (fun _ _ _ h => h) (Or.inl ⟨by rfl, ?_⟩) (by assumption) ?_
    · intro w hSw
      go_simp
    try simp only [Act.put, List.setIfInBounds_toArray, List.set_cons_zero, List.set_cons_succ]
    refine wpAnyH_take (i := 6) (oi := { dst := some 38, op := Op.slice 22 (Operand.tmp 36) none (some (Operand.tmp 37)) none, type := 22, pos := "ref.go:150", after := #[{ on := 4, ground := Ground.data }, { on := 5, ground := Ground.data }], guard := none }) (v := .slice (some ⟨b, off, none⟩) E c) rfl (by kernel_rfl) (by kernel_rfl) (by kernel_rfl) (fun _ _ _ h => h) (Or.inl ⟨by rfl, ?_⟩) (by assumption) ?_
    · intro w hSw
      go_simp
    try simp only [Act.put, List.setIfInBounds_toArray, List.set_cons_zero, List.set_cons_succ]
    refine wpAnyH_ready (rs := [3]) (by kernel_rfl) (by simp) ?_
    refine AllReadyH.cons (o := { dst := some 35, op := Op.call { callee := Callee.value (Operand.func 45), args := #[Operand.tmp 34], argTypes := #[22] }, type := 3, pos := "ref.go:150", after := #[{ on := 2, ground := Ground.data }], guard := none }) rfl ?_ ?_
    rotate_left
    · exact AllReadyH.nil
    intro K hK
    go_simp
    go_at_call 45
    refine (HVE.out _ _ hHeld.below).mono ?_
    rintro e w4 ⟨rfl, rfl⟩
    go_simp
    refine hK.out _ _ hHeld (fun hHeld => ?_)
    clear hK K
    try simp only [Act.put, List.setIfInBounds_toArray, List.set_cons_zero, List.set_cons_succ]
    refine wpAnyH_ready (rs := [7]) (by kernel_rfl) (by simp) ?_
    refine AllReadyH.cons (o := { dst := some 39, op := Op.call { callee := Callee.value (Operand.func 28), args := #[Operand.tmp 38], argTypes := #[22] }, type := 3, pos := "ref.go:150", after := #[{ on := 6, ground := Ground.data }, { on := 3, ground := Ground.chain }], guard := none }) rfl ?_ ?_
    rotate_left
    · exact AllReadyH.nil
    intro K hK
    go_simp
    go_at_call 28
    refine (HSE.out _ _ hHeld.below).mono ?_
    rintro e w5 ⟨rfl, hB5⟩
    have HS5 := Lib.hid (hHeld.up hB5)
    clear hB5 hHeld
    go_simp
    refine hK.out _ _ HS5.out (fun hHeld => ?_)
    clear hK K
    try simp only [Act.put, List.setIfInBounds_toArray, List.set_cons_zero, List.set_cons_succ]
    refine wpAnyH_take (i := 8) (oi := { dst := some 40, op := Op.binOp BinOp.neq 3 (Operand.tmp 35) (Operand.tmp 39) 3, type := 4, pos := "ref.go:150", after := #[{ on := 3, ground := Ground.data }, { on := 7, ground := Ground.data }], guard := none }) (v := .bool (s4 != (ss : Int))) rfl (by kernel_rfl) (by kernel_rfl) (by kernel_rfl) (fun _ _ _ h => h) (Or.inl ⟨by rfl, ?_⟩) (by assumption) ?_
    · intro w hSw
      go_simp
    try simp only [Act.put, List.setIfInBounds_toArray, List.set_cons_zero, List.set_cons_succ]
    refine wpAnyH_done (by kernel_rfl) ?_ _
    go_wp2_with fail
    go_meet
    case rel => exact ⟨_, rfl, _, rfl, Lib.hid rfl, hHeld⟩
  case rest =>
    clear HS0 HVE HSE
    obtain ⟨w6, hw6, q, rfl, HQ, hS6⟩ := hcut
    subst hw6
    have HS6 := Lib.hid hS6
    clear hS6
    cases q
    case true =>
      have HRE := Lib.hid (show r = .error (E, 124) by rw [HRD2.out, if_pos (by rw [← HX4.out, ← HXS.out]; exact bne_iff_ne.1 HQ.out.symm)])
      clear HQ
      go_wp2_with (first
        | (refine wpList_load_all rfl 25 _ rfl gk rfl 25 5 zeroPkF _ HS6.out.pk.blk Try.underlying25 rfl sizePk ?_)
        | (refine wpList_store_all rfl 25 _ _ rfl g2 25 5 _ zeroPkF rfl rfl HS6.out.res sizePk (pkF_one rfl rfl rfl) ?_; intro w9 h9 hT9 hs9))
      refine bodyPost_ret (result_ctt rfl _ _ _ _ g2 _ 5 _ _ rfl h9 Try.underlying25 rfl sizePk rfl rfl) rfl ⟨HS6.out.below.trans (hT9.below HS6.out.ne.2.1 HS6.out.below.size), ?_⟩
      rw [HRE.out]
      exact rfl
    have HRD3 := Lib.hid (show r = (match packR 0 Pk.none ((L.take E).drop 4) with
        | .ok k => .ok k
        | .error (lf, er) => .error (E - lf, er)) by rw [HRD2.out, if_neg (by rw [← HX4.out, ← HXS.out, bne_eq_false_iff_eq.1 HQ.out.symm]; simp)])
    clear HRD2 HX4 HXS HQ
    by_cases hE0 : E = 4
    · subst hE0
      have HRE := Lib.hid (show r = .error (4, 120) by
        rw [HRD3.out, show (L.take 4).drop 4 = [] by apply List.drop_of_length_le; rw [List.length_take]; omega, packR_end, if_pos rfl])
      go_wp2_with (first
        | (refine wpList_load_all rfl 25 _ rfl gk rfl 25 5 zeroPkF _ HS6.out.pk.blk Try.underlying25 rfl sizePk ?_)
        | (refine wpList_store_all rfl 25 _ _ rfl g2 25 5 _ zeroPkF rfl rfl HS6.out.res sizePk (pkF_one rfl rfl rfl) ?_; intro w9 h9 hT9 hs9))
      refine bodyPost_ret (result_ctt rfl _ _ _ _ g2 _ 5 _ _ rfl h9 Try.underlying25 rfl sizePk rfl rfl) rfl ⟨HS6.out.below.trans (hT9.below HS6.out.ne.2.1 HS6.out.below.size), ?_⟩
      rw [HRE.out]
      exact rfl
    have q3 : ((E : Int) == 4) = false := by rw [beq_eq_false_iff_ne]; omega
    go_upto_region 13 with fail
    obtain ⟨M, hM⟩ : ∃ M, M = L.take E := ⟨_, rfl⟩
    have HML := Lib.hid (show M.length = E by rw [hM, List.length_take]; have := HLN.out; omega)
    have HMY := Lib.hid (show Bytes M by rw [hM]; exact HY.out.take E)
    have HMA := Lib.hid (show ∀ W, Below w.heap.size w W → BytesAt W (some ⟨b, off, none⟩) M from fun W h => by
      have := bytes_part (p := 0) (m := E) (M := M) (HA.out.below h) (by rw [hM]; rfl) (by have := HLN.out; omega)
      rwa [Nat.add_zero] at this)
    rw [← hM] at HRD3
    obtain ⟨res, hres⟩ : ∃ z, z = packR 0 Pk.none (M.drop 4) := ⟨_, rfl⟩
    have HRES := Lib.hid hres.symm
    rw [← hres] at HRD3
    clear hM hres q3 HA HY HLN t2 t1' c4 c4n cE cEn cne cEf
    go_wp2_with fail
    go_loopw [7, 8, 9, 10, 11, 12, 13, 81, 91, 117] (fun a7 a8 _ _ _ _ _ _ _ _ wr => ∃ (p : Nat) (last : Int) (k : Pk) (vd vt vc : Value), a7 = .int .i64 p ∧ a8 = .int .i64 last ∧ 4 ≤ p ∧ p ≤ E ∧ 0 ≤ last ∧ last ≤ 4 ∧ (last = 0 → p = 4) ∧ Hid (packR last k (M.drop p) = res) ∧ Hid (RhS w g2 gk last k vd vt vc wr)) (fun a7 _ _ _ _ _ _ _ _ _ _ => (E - intOf a7).toNat)
    case atStart => exact ⟨4, 0, Pk.none, _, _, _, rfl, rfl, Nat.le_refl _, hE4, by decide, by decide, fun _ => rfl, HRES, HS6⟩
    case round =>
      obtain ⟨p, last, k, vd, vt, vc, rfl, rfl, hp4, hpE, hl0, hl4, hlp, HE, HR⟩ := hrel
      clear HS6 HRES
      by_cases hlt : p < E
      case neg =>
        obtain rfl : p = E := by omega
        have HRE := Lib.hid (show r = .ok k by
          rw [HRD3.out, ← HE.out, List.drop_of_length_le (by rw [HML.out]; exact Nat.le_refl _), packR_end, if_neg (fun e => hE0 (hlp e))])
        obtain ⟨F, hF⟩ : ∃ F, F = pkF k.lo k.hi vd vt vc := ⟨_, rfl⟩
        have HKB := Lib.hid (show FB wr gk 25 5 F by rw [hF]; exact HR.out.pk.blk)
        have HF1 := Lib.hid (show ∀ p, p < 5 → (F p).oneCell' = true by rw [hF]; exact pkF_one (ownB_one HR.out.pk.data) (ownT_form HR.out.pk.tabs) (ownB_one HR.out.pk.code))
        have HFF := Lib.hid hF
        clear hF hlt hp4 hpE hlp HE
        go_wp2_with (first
          | (refine wpList_load_all rfl 25 _ rfl gk rfl 25 5 F _ HKB.out Try.underlying25 rfl sizePk ?_)
          | (refine wpList_store_all rfl 25 _ _ rfl g2 25 5 _ F rfl rfl HR.out.res sizePk HF1.out ?_; intro w9 h9 hT9 hs9))
        refine bodyPost_ret (result_ctt rfl _ _ _ _ g2 _ 5 _ _ rfl h9 Try.underlying25 rfl sizePk rfl rfl) rfl ⟨HR.out.below.trans (hT9.below HR.out.ne.2.1 HR.out.below.size), ?_⟩
        rw [HRE.out]
        exact ⟨vd, vt, vc, by rw [HFF.out]; rfl, ownB_touch HR.out.pk.data hT9 HR.out.res (by decide), ownT_touch HR.out.pk.tabs hT9 HR.out.res (by decide), ownB_touch HR.out.pk.code hT9 HR.out.res (by decide)⟩
      have hlt' : (p : Int) < E := by omega
      have hEc' : E ≤ c := by omega
      have cE : (E : Int) ≤ c := by omega
      have hrn : M.drop p ≠ [] := fun e => by have := congrArg List.length e; rw [List.length_drop, List.length_nil] at this; have := HML.out; omega
      rw [packR_sec hrn] at HE
      have HFA := Lib.hid (rfault_any wr b off E c p last M HML.out hEc' HMY.out (HMA.out wr HR.out.below) (by omega) hlt ⟨hl0, hl4⟩)
      obtain ⟨fq, hfq⟩ : ∃ z, z = faultR last (M.drop p) E := ⟨_, rfl⟩
      unfold RFau at HFA
      rw [← hfq] at HFA
      obtain ⟨f1, f2, f3⟩ := fq
      cases hs : secR last (M.drop p) with
      | error x =>
        obtain ⟨lf, er⟩ := x
        rw [hs] at HE
        have hnz := (secR_err hs).1
        have hfe : (f1, f2, f3) = (E - lf, er, E) := by rw [hfq]; unfold faultR; rw [hs]
        have HRE := Lib.hid (show r = .error (E - lf, er) by rw [HRD3.out, ← HE.out])
        injection hfe.symm with e1 e2
        injection e2 with e2 e3
        subst e1 e2 e3
        have tn : (er != 0) = true := by rw [bne_iff_ne]; exact hnz
        clear hfq hs hnz HE
        go_upto_region 17 with (go_at_call 46; refine HFA.out.mono ?_; rintro e w7 ⟨rfl, hB7⟩)
        have HS7 := Lib.hid (HR.out.up hB7)
        clear hB7
        go_wp2_with (refine wpList_store_all rfl 25 _ _ rfl g2 25 5 _ zeroPkF rfl rfl HS7.out.res sizePk (pkF_one rfl rfl rfl) ?_; intro w9 h9 hT9 hs9)
        refine bodyPost_ret (result_ctt rfl _ _ _ _ g2 _ 5 _ _ rfl h9 Try.underlying25 rfl sizePk rfl rfl) rfl ⟨HS7.out.below.trans (hT9.below HS7.out.ne.2.1 HS7.out.below.size), ?_⟩
        rw [HRE.out]
        exact rfl
      | ok x =>
        obtain ⟨⟨kd, cc⟩, tt⟩ := x
        rw [hs] at HE
        simp only at HE
        obtain ⟨g1, gne, g3, g4, g5, g6, g7⟩ := secR_good (HMY.out.drop p) hs
        obtain ⟨s1, s2, -⟩ := sec_parts (B := M) (p := p) (by rw [HML.out]; exact hpE) g1 gne
        cases hi : into k kd cc (cc.length + tt.length) with
        | error x =>
          obtain ⟨lf, er⟩ := x
          rw [hi] at HE
          simp only at HE
          have hnz := (into_err hi).1
          have hfe : (f1, f2, f3) = (E - lf, er, E) := by rw [hfq]; unfold faultR; rw [hs]; simp only [(into_err_free k Pk.none kd cc _ _).1 hi]
          have HRE := Lib.hid (show r = .error (E - lf, er) by rw [HRD3.out, ← HE.out])
          clear hi g1 gne g3 g4 g5 g6 g7 s1 s2
          injection hfe.symm with e1 e2
          injection e2 with e2 e3
          subst e1 e2 e3
          have tn : (er != 0) = true := by rw [bne_iff_ne]; exact hnz
          clear hfq hs hnz HE
          go_upto_region 17 with (go_at_call 46; refine HFA.out.mono ?_; rintro e w7 ⟨rfl, hB7⟩)
          have HS7 := Lib.hid (HR.out.up hB7)
          clear hB7
          go_wp2_with (refine wpList_store_all rfl 25 _ _ rfl g2 25 5 _ zeroPkF rfl rfl HS7.out.res sizePk (pkF_one rfl rfl rfl) ?_; intro w9 h9 hT9 hs9)
          refine bodyPost_ret (result_ctt rfl _ _ _ _ g2 _ 5 _ _ rfl h9 Try.underlying25 rfl sizePk rfl rfl) rfl ⟨HS7.out.below.trans (hT9.below HS7.out.ne.2.1 HS7.out.below.size), ?_⟩
          rw [HRE.out]
          exact rfl
        | ok k' =>
          rw [hi] at HE
          simp only [if_pos g7] at HE
          obtain ⟨z, hz⟩ : ∃ z, z = cc.length := ⟨_, rfl⟩
          have hzp : 0 < z := by rw [hz]; exact len_pos gne
          have hq : E = p + 4 + z + tt.length := by have := HML.out; omega
          have hfe : (f1, f2, f3) = (0, 0, p + 4 + z) := by
            rw [hfq]; unfold faultR; rw [hs]
            cases h0 : into Pk.none kd cc (cc.length + tt.length) with
            | error x => rw [(into_err_free k Pk.none kd cc _ _).2 h0] at hi; cases hi
            | ok k0 => simp only [h0]; rw [show E - tt.length = p + 4 + z by omega]
          injection hfe.symm with e1 e2
          injection e2 with e2 e3
          subst e1 e2 e3
          have hkr := follows_rng hl0 g3
          have hlk : last < kd := by
            unfold follows at g3
            by_cases h0 : last = 0
            · omega
            · rw [if_neg h0, Bool.and_eq_true] at g3; exact of_decide_eq_true g3.1
          have hMd : M.drop (p + 4 + z) = tt := by
            have h5 : M.drop (p + 4 + z) = (M.drop p).drop (4 + z) := by rw [List.drop_drop, show p + (4 + z) = p + 4 + z by omega]
            rw [h5, g1, show 4 + z = (sec kd cc).length by rw [sec_len, if_neg gne, hz, Nat.add_comm], List.drop_left]
          have hkM : M[p]? = some kd := by
            have h5 : (M.drop p)[0]? = M[p]? := by rw [List.getElem?_drop, Nat.add_zero]
            rw [← h5, g1, sec_ne gne]; rfl
          have HUN := Lib.hid (uncounted_rng (show uncounted kd (z : Int) = 0 by rw [hz]; exact g4))
          have HCL := Lib.hid hz.symm
          have HCY := Lib.hid g5
          have HI := Lib.hid hi
          have HQ := Lib.hid (show packR kd k' (M.drop (p + 4 + z)) = res by rw [hMd]; exact HE.out)
          have HCA := Lib.hid (show ∀ W, Below w.heap.size w W → BytesAt W (some ⟨b, off + (p + 4), none⟩) cc from fun W h => bytes_part (p := p + 4) (m := z) (M := cc) (HMA.out W h) (by rw [hz]; exact s2) (by have := HML.out; omega))
          have hqE : p + 4 + z ≤ E := by omega
          clear hq hfq hs hi g1 gne g3 g4 g5 g6 g7 s1 s2 HE hMd hz hlp
          go_upto_region 17 with (go_at_call 46; refine HFA.out.mono ?_; rintro e w7 ⟨rfl, hB7⟩)
          have HS7 := Lib.hid (HR.out.up hB7)
          clear hB7 HR HFA
          have x0 : w7.cell? ⟨b, off + p, none⟩ = some (.int .u8 kd) := by
            have := bytes_in (HMA.out w7 HS7.out.below) (i := p) (by have := HML.out; omega)
            rw [hkM] at this; exact this
          clear hkM
          have e4 : ((p : Int) + 4).toNat = p + 4 := by omega
          have e5 : ((p : Int) + 4 + (z : Int)).toNat = p + 4 + z := by omega
          have b4 : (0 : Int) ≤ (p : Int) + 4 := by omega
          have b5 : (p : Int) + 4 ≤ (p : Int) + 4 + (z : Int) := by omega
          have b6 : (p : Int) + 4 + (z : Int) ≤ (c : Int) := by omega
          have hpc : (p : Int) < (E : Int) + 4 := by omega
          rcases (show kd = 1 ∨ kd = 2 ∨ kd = 3 ∨ kd = 4 by omega) with rfl | rfl | rfl | rfl
          · obtain rfl : last = 0 := by omega
            have HZ4 := Lib.hid (show z = 4 by have := HUN.out.2.1 rfl; omega)
            have HK := Lib.hid (show k' = { { k with lo := num (cc.take 2) } with hi := num (cc.drop 2) } by
              have hi := HI.out
              unfold into at hi
              rw [if_pos rfl] at hi
              by_cases h5 : num (cc.drop 2) < num (cc.take 2)
              · rw [if_pos h5] at hi; cases hi
              · rw [if_neg h5] at hi; injection hi with hi; exact hi.symm)
            have HV1 := Lib.hid (fun W c' (h : Below w.heap.size w W) => rvalue_any W (some ⟨b, off + (p + 4), none⟩) 2 c' (cc.take 2) (by rw [List.length_take]; have := HCL.out; have := HZ4.out; omega) (by decide) (HCY.out.take 2) (by
              have := bytes_part (p := 0) (m := 2) (M := cc.take 2) (HCA.out W h) rfl (by have := HCL.out; have := HZ4.out; omega)
              rwa [Nat.add_zero] at this))
            have HV2 := Lib.hid (fun W c' (h : Below w.heap.size w W) => rvalue_any W (some ⟨b, off + (p + 4) + 2, none⟩) 2 c' (cc.drop 2) (by rw [List.length_drop]; have := HCL.out; have := HZ4.out; omega) (by decide) (HCY.out.drop 2) (bytes_part (p := 2) (m := 2) (M := cc.drop 2) (HCA.out W h) (by rw [List.take_of_length_le]; rw [List.length_drop]; have := HCL.out; have := HZ4.out; omega) (by have := HCL.out; have := HZ4.out; omega)))
            obtain ⟨lo, hlo⟩ : ∃ q, q = num (cc.take 2) := ⟨_, rfl⟩
            obtain ⟨hi, hhi⟩ : ∃ q, q = num (cc.drop 2) := ⟨_, rfl⟩
            rw [← hlo] at HV1 HK
            rw [← hhi] at HV2 HK
            clear hlo hhi hkr hlk
            go_upto_region 21 with fail
            obtain ⟨cq, hcq⟩ : ∃ q, q = c - (p + 4) := ⟨_, rfl⟩
            rw [← hcq]
            have b7 : z ≤ cq := by omega
            clear hcq x0 e4 e5 b4 b5 b6 hpc
            have zk : wrap64 ((p : Int) + 4 + z) = (p : Int) + 4 + z := w64_in _ (by omega)
            have z2 : z - 2 = 2 := by have := HZ4.out; omega
            have z3 : (2 : Int) ≤ (z : Int) := by have := HZ4.out; omega
            have z3n : 2 ≤ z := by have := HZ4.out; omega
            have b8 : (2 : Int) ≤ (cq : Int) := by omega
            have b8n : 2 ≤ cq := by omega
            have b8e : ¬ (cq = 2) := by omega
            have m0 : w7.cell? ⟨gk, 0, none⟩ = some (.int .i64 k.lo) := HS7.out.pk.blk.cell 0 (by decide)
            have m1 : w7.frozen? ⟨gk, 0, none⟩ = false := HS7.out.pk.blk.frozen 0
            go_upto_region 25 with (go_at_call 45; refine (HV1.out _ _ HS7.out.below).mono ?_; rintro e w8 ⟨rfl, rfl⟩)
            clear m0 m1
            have HS8 := Lib.hid (HS7.out.lo lo)
            obtain ⟨w8, hw8⟩ : ∃ u, u = w7.setCell ⟨gk, 0, none⟩ (.int .i64 lo) := ⟨_, rfl⟩
            rw [← hw8] at HS8 ⊢
            clear hw8
            have m0 : w8.cell? ⟨gk, 1, none⟩ = some (.int .i64 k.hi) := HS8.out.pk.blk.cell 1 (by decide)
            have m1 : w8.frozen? ⟨gk, 1, none⟩ = false := HS8.out.pk.blk.frozen 1
            go_upto_region 33 with (go_at_call 45; refine (HV2.out _ _ HS8.out.below).mono ?_; rintro e w9 ⟨rfl, rfl⟩)
            clear m0 m1
            have HS9 := Lib.hid ((HS8.out.hi hi).on (last' := 1) (by decide))
            obtain ⟨w9, hw9⟩ : ∃ u, u = w8.setCell ⟨gk, 1, none⟩ (.int .i64 hi) := ⟨_, rfl⟩
            rw [← hw9] at HS9 ⊢
            rw [← HK.out] at HS9
            clear hw9
            go_wp2_with fail
            go_roundw
            case rel => exact ⟨p + 4 + z, 1, k', _, _, _, by go_num, rfl, by omega, hqE, by decide, by decide, fun e => absurd e (by decide), HQ, HS9⟩
            case measure => simp [intOf]; omega
          · obtain ⟨rfl, hk0⟩ := HS7.out.e2 (by omega)
            have HK := Lib.hid (show k' = { k with tabs := pairs cc } by
              have hi := HI.out
              unfold into at hi
              rw [if_neg (by decide), if_pos rfl] at hi
              cases ht : tabsR [] (cc.length + tt.length) cc with
              | error e => rw [ht] at hi; cases hi
              | ok t => rw [ht] at hi; injection hi with hi; rw [← hi, tabs_pairs cc [] t _ ht]; rfl)
            have HZE := Lib.hid (show z % 2 = 0 ∧ z ≤ 16 by have := HUN.out.2.2.1 rfl; omega)
            have HS8 := Lib.hid (show RhS w g2 gk 2 { k with tabs := (pairs cc).take (0 / 2) } vd (.slice none 0 0) vc w7 by
              have h5 : { k with tabs := (pairs cc).take (0 / 2) } = k := by cases k; simp only at hk0; rw [hk0]; rfl
              rw [h5]; exact HS7.out.on (by omega))
            clear hkr hk0 HS7
            go_upto_region 21 with fail
            obtain ⟨cq, hcq⟩ : ∃ q, q = c - (p + 4) := ⟨_, rfl⟩
            rw [← hcq]
            have b7 : z ≤ cq := by omega
            clear hcq x0 e4 e5 b4 b5 b6 hpc
            have zk : wrap64 ((p : Int) + 4 + z) = (p : Int) + 4 + z := w64_in _ (by omega)
            have hz16 : z ≤ 16 := HZE.out.2
            go_wp2_with fail
            go_loopw [13] (fun a13 wq => ∃ (i : Nat) (vt : Value), a13 = .int .i64 i ∧ i % 2 = 0 ∧ i ≤ z ∧ Hid (RhS w g2 gk 2 { k with tabs := (pairs cc).take (i / 2) } vd vt vc wq)) (fun a13 _ => (z - intOf a13).toNat)
            case atStart => exact ⟨0, _, rfl, rfl, Nat.zero_le _, HS8⟩
            case round =>
              obtain ⟨i, vt, rfl, hi2, hiz, HT⟩ := hrel
              clear HS8
              by_cases hin : i + 1 < z
              case neg =>
                obtain rfl : i = z := by have := HZE.out.1; omega
                have HS9 := Lib.hid (show RhS w g2 gk 2 k' vd vt vc wr by
                  rw [HK.out]
                  have h5 := HT.out
                  rw [List.take_of_length_le (by rw [pairs_len, HCL.out]; exact Nat.le_refl _)] at h5
                  exact h5)
                have t9 : ¬ ((i : Int) + 1 < i) := by omega
                clear hin hiz HT
                go_wp2_with fail
                go_roundw
                case rel => exact ⟨p + 4 + i, 2, k', _, _, _, by go_num, rfl, by omega, hqE, by decide, by decide, fun e => absurd e (by decide), HQ, HS9⟩
                case measure => simp [intOf]; omega
              have t9 : (i : Int) + 1 < z := by omega
              have ti : (i : Int) < z := by omega
              have tin : i < z := by omega
              have e9 : ((i : Int) + 1).toNat = i + 1 := by omega
              have i0 : (0 : Int) ≤ (i : Int) + 1 := by omega
              obtain ⟨x, hx⟩ : ∃ x, x = cc[i]?.getD 0 := ⟨_, rfl⟩
              obtain ⟨y, hy⟩ : ∃ x, x = cc[i + 1]?.getD 0 := ⟨_, rfl⟩
              have HXB := Lib.hid (show 0 ≤ x ∧ x < 256 by rw [hx, List.getElem?_eq_getElem (by have := HCL.out; omega)]; exact HCY.out _ (List.getElem_mem _))
              have HYB := Lib.hid (show 0 ≤ y ∧ y < 256 by rw [hy, List.getElem?_eq_getElem (by have := HCL.out; omega)]; exact HCY.out _ (List.getElem_mem _))
              have HPS := Lib.hid (show (pairs cc).take (i / 2) ++ [(x, y)] = (pairs cc).take ((i + 2) / 2) by
                have h5 := pairs_step cc (i / 2) (by have := HCL.out; omega)
                rw [show 2 * (i / 2) = i by omega, ← hx, ← hy] at h5
                rw [show (i + 2) / 2 = i / 2 + 1 by omega, h5])
              have HCX := Lib.hid (show ∀ W, Below w.heap.size w W → W.cell? ⟨b, off + (p + 4) + i, none⟩ = some (.int .u8 x) from fun W h => by rw [hx]; exact bytes_in (HCA.out W h) (by have := HCL.out; omega))
              have HCW := Lib.hid (show ∀ W, Below w.heap.size w W → W.cell? ⟨b, off + (p + 4) + (i + 1), none⟩ = some (.int .u8 y) from fun W h => by rw [hy]; exact bytes_in (HCA.out W h) (by have := HCL.out; omega))
              clear hx hy
              obtain ⟨Am, mm, cm, rfl, -⟩ := OwnR.form HT.out.pk.tabs
              have HTL := Lib.hid (show ((pairs cc).take (i / 2)).length ≤ 8 by rw [List.length_take]; omega)
              go_upto_region 30 with fail
              refine wp_region_last (n := 17) (S := fun W => W.cell? ⟨gk, 3, none⟩ = some (.slice Am mm cm) ∧ Below w.heap.size w W) (by kernel_rfl) (by kernel_rfl) (by kernel_rfl) (by kernel_rfl) rfl ⟨(HT.out.up (below_drewN (Below.refl _ _) 1)).pk.blk.cell 3 (by decide), (HT.out.up (below_drewN (Below.refl _ _) 1)).below⟩ (fun hHeld => ?_)
              have HTD := Lib.hid (HT.out.up (below_drewN (Below.refl _ _) 1))
              obtain ⟨wd, hwd⟩ : ∃ u, u = wr.drew := ⟨_, rfl⟩
              rw [show wr.drewN 1 = wr.drew from rfl, ← hwd] at HTD
              rw [← hwd] at hHeld ⊢
              clear hwd HT
              refine wpAnyH_take (i := 0) (oi := { dst := some 100, op := Op.fieldAddr 25 (Operand.tmp 5) 3, type := 0, pos := "ref.go:171", after := #[], guard := none }) (v := .pointer (some ⟨gk, 3, none⟩)) rfl (by kernel_rfl) (by kernel_rfl) (by kernel_rfl) (fun _ _ _ h => h) (Or.inl ⟨by rfl, ?_⟩) (by assumption) ?_
              · intro w hSw
                go_simp
              try simp only [Act.put, List.setIfInBounds_toArray, List.set_cons_zero, List.set_cons_succ]
              refine wpAnyH_take (i := 1) (oi := { dst := some 101, op := Op.load 23 (Operand.tmp 100), type := 23, pos := "ref.go:171", after := #[{ on := 0, ground := Ground.data }], guard := none }) (v := .slice Am mm cm) rfl (by kernel_rfl) (by kernel_rfl) (by kernel_rfl) (fun _ _ _ h => h) (Or.inl ⟨by rfl, ?_⟩) (by assumption) ?_
              · intro w hSw
                have q0 := hSw.1
                go_simp
              try simp only [Act.put, List.setIfInBounds_toArray, List.set_cons_zero, List.set_cons_succ]
              refine wpAnyH_take (i := 2) (oi := { dst := some 102, op := Op.move (Operand.tmp 12), type := 22, pos := "ref.go:171", after := #[], guard := none }) (v := .slice (some ⟨b, off + (p + 4), none⟩) z cq) rfl (by kernel_rfl) (by kernel_rfl) (by kernel_rfl) (fun _ _ _ h => h) (Or.inl ⟨by rfl, ?_⟩) (by assumption) ?_
              · intro w hSw
                go_simp
              try simp only [Act.put, List.setIfInBounds_toArray, List.set_cons_zero, List.set_cons_succ]
              refine wpAnyH_take (i := 3) (oi := { dst := some 103, op := Op.move (Operand.tmp 13), type := 3, pos := "ref.go:171", after := #[], guard := none }) (v := .int .i64 i) rfl (by kernel_rfl) (by kernel_rfl) (by kernel_rfl) (fun _ _ _ h => h) (Or.inl ⟨by rfl, ?_⟩) (by assumption) ?_
              · intro w hSw
                go_simp
              try simp only [Act.put, List.setIfInBounds_toArray, List.set_cons_zero, List.set_cons_succ]
              refine wpAnyH_take (i := 4) (oi := { dst := some 104, op := Op.indexAddr 22 (Operand.tmp 102) (Operand.tmp 103), type := 0, pos := "ref.go:171", after := #[{ on := 2, ground := Ground.data }, { on := 3, ground := Ground.data }], guard := none }) (v := .pointer (some ⟨b, off + (p + 4) + i, none⟩)) rfl (by kernel_rfl) (by kernel_rfl) (by kernel_rfl) (fun _ _ _ h => h) (Or.inl ⟨by rfl, ?_⟩) (by assumption) ?_
              · intro w hSw
                go_simp
              try simp only [Act.put, List.setIfInBounds_toArray, List.set_cons_zero, List.set_cons_succ]
              refine wpAnyH_take (i := 5) (oi := { dst := some 105, op := Op.load 5 (Operand.tmp 104), type := 5, pos := "ref.go:171", after := #[{ on := 4, ground := Ground.data }], guard := none }) (v := .int .u8 x) rfl (by kernel_rfl) (by kernel_rfl) (by kernel_rfl) (fun _ _ _ h => h) (Or.inl ⟨by rfl, ?_⟩) (by assumption) ?_
              · intro w hSw
                have q0 := HCX.out _ hSw.2
                go_simp
              try simp only [Act.put, List.setIfInBounds_toArray, List.set_cons_zero, List.set_cons_succ]
              refine wpAnyH_take (i := 6) (oi := { dst := some 106, op := Op.convert 5 3 (Operand.tmp 105), type := 3, pos := "ref.go:171", after := #[{ on := 5, ground := Ground.data }], guard := none }) (v := .int .i64 x) rfl (by kernel_rfl) (by kernel_rfl) (by kernel_rfl) (fun _ _ _ h => h) (Or.inl ⟨by rfl, ?_⟩) (by assumption) ?_
              · intro w hSw
                have q0 := u8_64 HXB.out
                go_simp
              try simp only [Act.put, List.setIfInBounds_toArray, List.set_cons_zero, List.set_cons_succ]
              refine wpAnyH_take (i := 7) (oi := { dst := some 107, op := Op.move (Operand.tmp 12), type := 22, pos := "ref.go:171", after := #[], guard := none }) (v := .slice (some ⟨b, off + (p + 4), none⟩) z cq) rfl (by kernel_rfl) (by kernel_rfl) (by kernel_rfl) (fun _ _ _ h => h) (Or.inl ⟨by rfl, ?_⟩) (by assumption) ?_
              · intro w hSw
                go_simp
              try simp only [Act.put, List.setIfInBounds_toArray, List.set_cons_zero, List.set_cons_succ]
              refine wpAnyH_take (i := 8) (oi := { dst := some 108, op := Op.move (Operand.tmp 13), type := 3, pos := "ref.go:171", after := #[], guard := none }) (v := .int .i64 i) rfl (by kernel_rfl) (by kernel_rfl) (by kernel_rfl) (fun _ _ _ h => h) (Or.inl ⟨by rfl, ?_⟩) (by assumption) ?_
              · intro w hSw
                go_simp
              try simp only [Act.put, List.setIfInBounds_toArray, List.set_cons_zero, List.set_cons_succ]
              refine wpAnyH_take (i := 9) (oi := { dst := some 109, op := Op.binOp BinOp.add 3 (Operand.tmp 108) (Operand.const (Value.int IntKind.i64 1)) 3, type := 3, pos := "ref.go:171", after := #[{ on := 8, ground := Ground.data }], guard := none }) (v := .int .i64 ((i : Int) + 1)) rfl (by kernel_rfl) (by kernel_rfl) (by kernel_rfl) (fun _ _ _ h => h) (Or.inl ⟨by rfl, ?_⟩) (by assumption) ?_
              · intro w hSw
                have q0 : IntKind.i64.wrap ((i : Int) + 1) = (i : Int) + 1 := IntWalk.i64_in _ (by omega)
                go_simp
              try simp only [Act.put, List.setIfInBounds_toArray, List.set_cons_zero, List.set_cons_succ]
              refine wpAnyH_take (i := 10) (oi := { dst := some 110, op := Op.indexAddr 22 (Operand.tmp 107) (Operand.tmp 109), type := 0, pos := "ref.go:171", after := #[{ on := 7, ground := Ground.data }, { on := 9, ground := Ground.data }], guard := none }) (v := .pointer (some ⟨b, off + (p + 4) + (i + 1), none⟩)) rfl (by kernel_rfl) (by kernel_rfl) (by kernel_rfl) (fun _ _ _ h => h) (Or.inl ⟨by rfl, ?_⟩) (by assumption) ?_
              · intro w hSw
                go_simp
              try simp only [Act.put, List.setIfInBounds_toArray, List.set_cons_zero, List.set_cons_succ]
              refine wpAnyH_take (i := 11) (oi := { dst := some 111, op := Op.load 5 (Operand.tmp 110), type := 5, pos := "ref.go:171", after := #[{ on := 10, ground := Ground.data }], guard := none }) (v := .int .u8 y) rfl (by kernel_rfl) (by kernel_rfl) (by kernel_rfl) (fun _ _ _ h => h) (Or.inl ⟨by rfl, ?_⟩) (by assumption) ?_
              · intro w hSw
                have q0 := HCW.out _ hSw.2
                go_simp
              try simp only [Act.put, List.setIfInBounds_toArray, List.set_cons_zero, List.set_cons_succ]
              refine wpAnyH_take (i := 12) (oi := { dst := some 112, op := Op.convert 5 3 (Operand.tmp 111), type := 3, pos := "ref.go:171", after := #[{ on := 11, ground := Ground.data }], guard := none }) (v := .int .i64 y) rfl (by kernel_rfl) (by kernel_rfl) (by kernel_rfl) (fun _ _ _ h => h) (Or.inl ⟨by rfl, ?_⟩) (by assumption) ?_
              · intro w hSw
                have q0 := u8_64 HYB.out
                go_simp
              try simp only [Act.put, List.setIfInBounds_toArray, List.set_cons_zero, List.set_cons_succ]
              refine wpAnyH_take (i := 13) (oi := { dst := some 113, op := Op.build 60 #[(0, Operand.tmp 106), (1, Operand.tmp 112)], type := 60, pos := "ref.go:171", after := #[{ on := 6, ground := Ground.data }, { on := 12, ground := Ground.data }], guard := none }) (v := .agg #[.int .i64 x, .int .i64 y]) rfl (by kernel_rfl) (by kernel_rfl) (by kernel_rfl) (fun _ _ _ h => h) (Or.inl ⟨by rfl, ?_⟩) (by assumption) ?_
              · intro w hSw
                go_simp
              try simp only [Act.put, List.setIfInBounds_toArray, List.set_cons_zero, List.set_cons_succ]
              clear hHeld
              refine wpAnyH_ready (rs := [14]) (by kernel_rfl) (by simp) ?_
              refine AllReadyH.cons (o := { dst := some 114, op := Op.buildSlice 23 1 #[(0, Operand.tmp 113)], type := 23, pos := "ref.go:171", after := #[{ on := 13, ground := Ground.data }], guard := none }) rfl ?_ ?_
              rotate_left
              · exact AllReadyH.nil
              intro K hK
              refine wp_slice1_seg 23 60 _ rfl 2 (tabF (x, y)) (tabF (0, 0)) rfl Try.underlying23 zeroTabR sizeTab (by decide) (by decide) ?_
              intro w5 h5 hB5 hs5
              have HT5 := Lib.hid (HTD.out.up hB5)
              have H5 := Lib.hid h5
              clear hB5 hs5 h5
              refine hK.out _ _ ⟨HT5.out.pk.blk.cell 3 (by decide), HT5.out.below⟩ (fun hHeld => ?_)
              clear hK K
              try simp only [Act.put, List.setIfInBounds_toArray, List.set_cons_zero, List.set_cons_succ]
              clear hHeld
              refine wpAnyH_ready (rs := [15]) (by kernel_rfl) (by simp) ?_
              refine AllReadyH.cons (o := { dst := some 115, op := Op.call { callee := Callee.builtin Builtin.append, args := #[Operand.tmp 101, Operand.tmp 114], argTypes := #[23, 23] }, type := 23, pos := "ref.go:171", after := #[{ on := 1, ground := Ground.data }, { on := 14, ground := Ground.data }], guard := none }) rfl ?_ ?_
              rotate_left
              · exact AllReadyH.nil
              intro K hK
              refine step_append_row 23 60 2 16 tabF (tabF (0, 0)) Try.underlying23 infTabR (by decide) w5 rfl (.tmp 101) (.tmp 114) rfl w.heap.size _ ((pairs cc).take (i / 2)) rfl HT5.out.pk.tabs wd.heap.size (x, y) rfl H5.out (tabF_one2 _) (by have := HTL.out; omega) (by have := HTL.out; unfold maxLen; omega) HT5.out.below.size ?_
              intro v6 w6 h6 hB6 hg6
              have HB6 := Lib.hid (show FB w6 gk 25 5 (pkF k.lo k.hi vd (.slice Am mm cm) vc) from HT5.out.grown_blk hg6)
              have HT6 := Lib.hid (HT5.out.tabs hB6 hg6 h6)
              have HW6 := Lib.hid (HT5.out.below.trans hB6)
              obtain ⟨A8, m8, c8, rfl, -⟩ := OwnR.form h6
              clear h6 hB6 hg6
              refine hK.out _ _ ⟨HB6.out.cell 3 (by decide), HW6.out⟩ (fun hHeld => ?_)
              clear hK K
              try simp only [Act.put, List.setIfInBounds_toArray, List.set_cons_zero, List.set_cons_succ]
              refine wpAnyH_take (i := 16) (oi := { dst := some 116, op := Op.fieldAddr 25 (Operand.tmp 5) 3, type := 0, pos := "ref.go:171", after := #[{ on := 0, ground := Ground.phase }, { on := 1, ground := Ground.phase }, { on := 2, ground := Ground.phase }, { on := 3, ground := Ground.phase }, { on := 4, ground := Ground.phase }, { on := 5, ground := Ground.phase }, { on := 6, ground := Ground.phase }, { on := 7, ground := Ground.phase }, { on := 8, ground := Ground.phase }, { on := 9, ground := Ground.phase }, { on := 10, ground := Ground.phase }, { on := 11, ground := Ground.phase }, { on := 12, ground := Ground.phase }, { on := 13, ground := Ground.phase }, { on := 14, ground := Ground.phase }, { on := 15, ground := Ground.phase }], guard := none }) (v := .pointer (some ⟨gk, 3, none⟩)) rfl (by kernel_rfl) (by kernel_rfl) (by kernel_rfl) (fun _ _ _ h => h) (Or.inl ⟨by rfl, ?_⟩) (by assumption) ?_
              · intro w hSw
                go_simp
              try simp only [Act.put, List.setIfInBounds_toArray, List.set_cons_zero, List.set_cons_succ]
              clear hHeld
              refine wpAnyH_done (by kernel_rfl) ?_ _
              have m0 : w6.cell? ⟨gk, 3, none⟩ = some (.slice Am mm cm) := HB6.out.cell 3 (by decide)
              have m1 : w6.frozen? ⟨gk, 3, none⟩ = false := FB.frozen HB6.out 3
              unfold Ahead
              refine wpOp_step rfl fun K' hK' => ?_
              go_simp
              refine hK' _ _ ?_
              clear hK' m0 m1
              obtain ⟨w8, hw8⟩ : ∃ u, u = w6.setCell ⟨gk, 3, none⟩ (.slice A8 m8 c8) := ⟨_, rfl⟩
              rw [← hw8] at HT6 ⊢
              rw [HPS.out] at HT6
              clear hw8 HB6 HW6 HT5 H5 HTD
              simp only [Exit.inBlock]
              go_wp2_with fail
              go_roundw
              case rel => exact ⟨i + 2, _, by go_num, by omega, by omega, HT6⟩
              case measure => simp [intOf]; omega
          · obtain ⟨rfl, hk0⟩ := HS7.out.e3 (by omega)
            have HK := Lib.hid (show k' = { k with data := cc } from by have hi := HI.out; injection hi with hi; exact hi.symm)
            clear hkr
            go_upto_region 21 with fail
            obtain ⟨cq, hcq⟩ : ∃ q, q = c - (p + 4) := ⟨_, rfl⟩
            rw [← hcq]
            have b7 : z ≤ cq := by omega
            clear hcq x0 e4 e5 b4 b5 b6 hpc
            have zk : wrap64 ((p : Int) + 4 + z) = (p : Int) + 4 + z := w64_in _ (by omega)
            have HS7b := Lib.hid (HS7.out.on (last' := 2) (by omega))
            have m0 : w7.cell? ⟨gk, 2, none⟩ = some (.slice none 0 0) := HS7.out.pk.blk.cell 2 (by decide)
            go_upto_region 33 with (at_builtin; (refine append_bytesG Try.underlying22 byte_info _ rfl (.tmp 120) (.tmp 121) rfl w7.heap.size _ [] rfl (OwnB.nil _ _) _ z cq cc rfl HCL.out (HCA.out w7 HS7.out.below) (by simp; omega) (Nat.le_refl _) ?_; (intro v9 w9 hO9 hg9); (have hU9 := UT.grown hg9 (OwnB.nil _ _) (Nat.le_refl w7.heap.size)); (obtain ⟨A9, n9, c9, rfl, -⟩ := own_full hO9); (have m2 : w9.cell? ⟨gk, 2, none⟩ = some (.slice none 0 0) := (HS7.out.up hU9.below).pk.blk.cell 2 (by decide)); (have m3 : w9.frozen? ⟨gk, 2, none⟩ = false := (HS7.out.up hU9.below).pk.blk.frozen 2)))
            rw [List.nil_append] at hO9
            have HS9 := Lib.hid (HS7b.out.data hU9.below hO9)
            obtain ⟨w10, hw10⟩ : ∃ u, u = w9.setCell ⟨gk, 2, none⟩ (.slice A9 n9 c9) := ⟨_, rfl⟩
            rw [← hw10] at HS9 ⊢
            rw [← HK.out] at HS9
            clear hw10 m2 m3 m0 hO9 hg9 hU9 HS7 HS7b
            go_wp2_with fail
            go_roundw
            case rel => exact ⟨p + 4 + z, 3, k', _, _, _, by go_num, rfl, by omega, hqE, by decide, by decide, fun e => absurd e (by decide), HQ, HS9⟩
            case measure => simp [intOf]; omega
          · obtain ⟨rfl, hk0⟩ := HS7.out.e4 (by omega)
            have HK := Lib.hid (show k' = { k with code := cc } from by have hi := HI.out; injection hi with hi; exact hi.symm)
            clear hkr
            go_upto_region 21 with fail
            obtain ⟨cq, hcq⟩ : ∃ q, q = c - (p + 4) := ⟨_, rfl⟩
            rw [← hcq]
            have b7 : z ≤ cq := by omega
            clear hcq x0 e4 e5 b4 b5 b6 hpc
            have zk : wrap64 ((p : Int) + 4 + z) = (p : Int) + 4 + z := w64_in _ (by omega)
            have HS7b := Lib.hid (HS7.out.on (last' := 3) (by omega))
            have m0 : w7.cell? ⟨gk, 4, none⟩ = some (.slice none 0 0) := HS7.out.pk.blk.cell 4 (by decide)
            go_upto_region 33 with (at_builtin; (refine append_bytesG Try.underlying22 byte_info _ rfl (.tmp 77) (.tmp 78) rfl w7.heap.size _ [] rfl (OwnB.nil _ _) _ z cq cc rfl HCL.out (HCA.out w7 HS7.out.below) (by simp; omega) (Nat.le_refl _) ?_; (intro v9 w9 hO9 hg9); (have hU9 := UT.grown hg9 (OwnB.nil _ _) (Nat.le_refl w7.heap.size)); (obtain ⟨A9, n9, c9, rfl, -⟩ := own_full hO9); (have m2 : w9.cell? ⟨gk, 4, none⟩ = some (.slice none 0 0) := (HS7.out.up hU9.below).pk.blk.cell 4 (by decide)); (have m3 : w9.frozen? ⟨gk, 4, none⟩ = false := (HS7.out.up hU9.below).pk.blk.frozen 4)))
            rw [List.nil_append] at hO9
            have HS9 := Lib.hid (HS7b.out.code hU9.below hO9)
            obtain ⟨w10, hw10⟩ : ∃ u, u = w9.setCell ⟨gk, 4, none⟩ (.slice A9 n9 c9) := ⟨_, rfl⟩
            rw [← hw10] at HS9 ⊢
            rw [← HK.out] at HS9
            clear hw10 m2 m3 m0 hO9 hg9 hU9 HS7 HS7b
            go_wp2_with fail
            go_roundw
            case rel => exact ⟨p + 4 + z, 4, k', _, _, _, by go_num, rfl, by omega, hqE, by decide, by decide, fun e => absurd e (by decide), HQ, HS9⟩
            case measure => simp [intOf]; omega
end Go.Proofs.Ytkfcfoidaalnlaa.Pak
