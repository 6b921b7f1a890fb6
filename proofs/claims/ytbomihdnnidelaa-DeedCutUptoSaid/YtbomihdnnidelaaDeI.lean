/- Package deed: a claim is read. -/
import Derived.Test.YtbomihdnnidelaaDeH
namespace Go.Proofs.Ytbomihdnnidelaa
open Go.ChangeShapes Go.WideShapes Go.ChangeAt Go.RowKit
open Dee
set_option linter.unusedVariables false
set_option linter.unusedSimpArgs false
set_option maxRecDepth 100000
/-- the cells of a claim: whether it is dead, 42 tags, the list of its constraints -/
def clF (d : Bool) (G : Nat → Tag) (v : Value) : Nat → Value := fun k => if k = 0 then .bool d else if k < 127 then tgF (G ((k - 1) / 3)) ((k - 1) % 3) else v
def regG (l : List Tag) : Nat → Tag := fun m => (l[m]?).getD Tag.zero
def tagsOf (x : Cl) : Nat → Tag := fun m => if m < 10 then regG x.regs m else stackOf x.ents (m - 10)
theorem regG_app (l : List Tag) (t : Tag) : regG (l ++ [t]) = setS (regG l) l.length t := by
  funext m
  unfold regG setS
  rcases Nat.lt_trichotomy m l.length with h | h | h
  · rw [List.getElem?_append_left h, if_neg (by omega)]
  · subst h; simp
  · rw [if_neg (by omega), List.getElem?_eq_none (by simp; omega)]
    show _ = (l[m]?).getD Tag.zero
    rw [List.getElem?_eq_none (by omega)]
theorem clF_dead (d e : Bool) (G : Nat → Tag) (v : Value) (q : Nat) : upd (clF d G v) 0 (.bool e) q = clF e G v q := by
  unfold upd clF; split <;> rfl
theorem clF_reg (d : Bool) (G : Nat → Tag) (v : Value) (n : Nat) (hn : n < 42) (t : Tag) (q : Nat) : updR (clF d G v) (1 + n * 3) 3 (tgF t) q = clF d (setS G n t) v q := by
  unfold updR clF setS
  by_cases h : 1 + n * 3 ≤ q ∧ q < 1 + n * 3 + 3
  · rw [if_pos h, if_neg (by omega), if_pos (by omega), if_pos (by omega), show q - (1 + n * 3) = (q - 1) % 3 by omega]
  · rw [if_neg h]
    by_cases h0 : q = 0
    · rw [if_pos h0, if_pos h0]
    · rw [if_neg h0, if_neg h0]
      by_cases h1 : q < 127
      · rw [if_pos h1, if_pos h1, if_neg (by omega)]
      · rw [if_neg h1, if_neg h1]
theorem clF_stack (d : Bool) (G S : Nat → Tag) (v : Value) (q : Nat) : updR (clF d G v) 31 96 (tsF S) q = clF d (fun m => if m < 10 then G m else S (m - 10)) v q := by
  unfold updR clF tsF
  by_cases h : 31 ≤ q ∧ q < 31 + 96
  · rw [if_pos h, if_neg (by omega), if_pos (by omega)]
    show _ = tgF (if (q - 1) / 3 < 10 then G ((q - 1) / 3) else S ((q - 1) / 3 - 10)) ((q - 1) % 3)
    rw [if_neg (by omega), show (q - 31) / 3 = (q - 1) / 3 - 10 by omega, show (q - 31) % 3 = (q - 1) % 3 by omega]
  · rw [if_neg h]
    by_cases h0 : q = 0
    · rw [if_pos h0, if_pos h0]
    · rw [if_neg h0, if_neg h0]
      by_cases h1 : q < 127
      · rw [if_pos h1, if_pos h1]
        show _ = tgF (if (q - 1) / 3 < 10 then G ((q - 1) / 3) else S ((q - 1) / 3 - 10)) ((q - 1) % 3)
        rw [if_pos (by omega)]
      · rw [if_neg h1, if_neg h1]
theorem clF_cons (d : Bool) (G : Nat → Tag) (v u : Value) (q : Nat) (hq : q < 128) : upd (clF d G v) 127 u q = clF d G u q := by
  unfold upd clF
  by_cases h : q = 127
  · rw [if_pos h, if_neg (by omega), if_neg (by omega)]
  · rw [if_neg h]
    by_cases h0 : q = 0
    · rw [if_pos h0, if_pos h0]
    · rw [if_neg h0, if_neg h0, if_pos (by omega), if_pos (by omega)]
theorem clF_one (d : Bool) (G : Nat → Tag) (v : Value) (hv : v.oneCell' = true) : ∀ q, q < 128 → (clF d G v q).oneCell' = true := fun q _ => by
  unfold clF
  split
  · rfl
  · split
    · exact tgF_one _ _ (by omega)
    · exact hv
theorem zeroClaim : (Try.prog.info? 61).bind (fun i => i.zero.map Value.cells) = some (arr 128 (clF false (fun _ => Tag.zero) (.slice none 0 0))) := by kernel_rfl
theorem sizeClaim : (Try.prog.info? 61).map (·.size) = some 128 := by kernel_rfl
theorem infClaim : (Try.prog.info? 61).map (fun i => (i.zero.map Value.cells, i.size, i.bytes)) = some (some (arr 128 (clF false (fun _ => Tag.zero) (.slice none 0 0))), 128, 1040) := by kernel_rfl
theorem alive_any (x : Int) (w : World) : Calls Try.prog 85 #[.int .i64 x] w fun e w' => e = .returned (.bool (aliveB x)) ∧ w = w' := by
  have HT := Lib.hid (show aliveB x = (decide (x = 0) || decide (x = 1)) from rfl)
  by_cases h1 : x = 0
  · subst h1
    go_enter Try.func85, Try.ntmps85
    go_wp2_with fail
    go_ret
    exact ⟨rfl, rfl⟩
  · have t1 : (x == 0) = false := by rw [beq_eq_false_iff_ne]; exact h1
    by_cases h2 : x = 1
    · subst h2
      clear t1 h1
      go_enter Try.func85, Try.ntmps85
      go_wp2_with fail
      go_ret
      exact ⟨rfl, rfl⟩
    · have t2 : (x == 1) = false := by rw [beq_eq_false_iff_ne]; exact h2
      have HT2 := Lib.hid (show false = aliveB x by rw [HT.out, decide_eq_false h1, decide_eq_false h2]; rfl)
      clear h1 h2 HT
      go_enter Try.func85, Try.ntmps85
      go_wp2_with fail
      go_ret
      exact ⟨ret_bool HT2.out, rfl⟩
theorem en_alive : ∀ (a : Array Value) (W : World), (callFunc 85 a).run Try.prog W = .ok (.enter 85 a) W := fun _ _ => by kernel_rfl
/-- how the reader of a claim ends -/
def ClEnd (w : World) (g : Nat) (A : Option Addr) (n c : Nat) (B : List Int) (r : Rs Cl) (e : Ending) (w' : World) : Prop :=
  Touch g w w' ∧ match r with
  | .ok (x, t) => ∃ v, e = .returned (.agg (arr 128 (clF x.dead (tagsOf x) v))) ∧ OwnR 63 3 coF w' w.heap.size v x.cons ∧ Rd w' g A n c B t
  | .error (lf, er) => e = .panicked (fltV ((n - lf : Nat) : Int) er)
section
variable {w w' : World} {g : Nat} {A : Option Addr} {n c : Nat} {B : List Int} {r : Rs Cl} {e : Ending}
theorem ClEnd.ok {x : Cl} {t : List Int} (h : ClEnd w g A n c B r e w') (hr : r = .ok (x, t)) : ∃ v, e = .returned (.agg (arr 128 (clF x.dead (tagsOf x) v))) ∧ OwnR 63 3 coF w' w.heap.size v x.cons ∧ Rd w' g A n c B t ∧ Touch g w w' := by
  subst hr
  obtain ⟨h1, v, h2, h3, h4⟩ := h
  exact ⟨v, h2, h3, h4, h1⟩
theorem ClEnd.no {lf : Nat} {er : Int} (h : ClEnd w g A n c B r e w') (hr : r = .error (lf, er)) : e = .panicked (fltV ((n - lf : Nat) : Int) er) ∧ Touch g w w' := by
  subst hr
  exact ⟨h.2, h.1⟩
theorem ClEnd.mk {x : Cl} {t : List Int} {v : Value} (hr : r = .ok (x, t)) (h1 : e = .returned (.agg (arr 128 (clF x.dead (tagsOf x) v)))) (h2 : OwnR 63 3 coF w' w.heap.size v x.cons) (h3 : Rd w' g A n c B t) (h4 : Touch g w w') : ClEnd w g A n c B r e w' := by
  subst hr
  exact ⟨h4, v, h1, h2, h3⟩
theorem ClEnd.bad {lf : Nat} {er : Int} (hr : r = .error (lf, er)) (h1 : e = .panicked (fltV ((n - lf : Nat) : Int) er)) (h4 : Touch g w w') : ClEnd w g A n c B r e w' := by
  subst hr
  exact ⟨h4, h1⟩
end
theorem OwnR.one {α : Type} {e : TypeId} {s : Nat} {f : α → Nat → Value} {w : World} {base : Nat} {v : Value} {l : List α} (h : OwnR e s f w base v l) : v.oneCell' = true := by
  obtain ⟨A, m, c, rfl, _⟩ := h.form
  rfl
theorem OwnR.base {α : Type} {e : TypeId} {s : Nat} {f : α → Nat → Value} {w : World} {base base' : Nat} {v : Value} {l : List α} (h : OwnR e s f w base v l) (hb : base' ≤ base) : OwnR e s f w base' v l := by
  refine ⟨h.1, ?_⟩
  rcases h.2 with h1 | ⟨g, cap, cur, hv, hg, h1⟩
  · exact .inl h1
  · exact .inr ⟨g, cap, cur, hv, by omega, h1⟩
theorem dead_tags : tagsOf deadCl = fun _ => Tag.zero := by
  funext m
  unfold tagsOf
  split <;> rfl
set_option maxHeartbeats 8000000 in
theorem claim_any (w : World) (g : Nat) (A : Option Addr) (n c : Nat) (B L : List Int) (hn : n ≤ 4194304) (h : Rd w g A n c B L) :
    Calls Try.prog 60 #[.pointer (some ⟨g, 0, none⟩)] w (ClEnd w g A n c B (clR L)) := by
  have HR := Lib.hid h
  have HG := Lib.hid h.blk.lt
  clear h
  obtain ⟨Z, hZ⟩ : ∃ Z, Z = clF false (fun _ => Tag.zero) (.slice none 0 0) := ⟨_, rfl⟩
  have HZ := Lib.hid hZ
  have HZC := Lib.hid (show (Try.prog.info? 61).bind (fun i => i.zero.map Value.cells) = some (arr 128 Z) by rw [hZ]; exact zeroClaim)
  clear hZ
  go_enter Try.func60, Try.ntmps60
  go_upto_region 1 with (refine wpList_alloc_seg rfl 61 rfl 128 Z HZC.out ?_; intro w1 h1 hB1 hs1)
  go_upto_region 2 with (refine wpList_alloc_seg rfl 61 rfl 128 Z HZC.out ?_; intro w2 h2 hB2 hs2)
  obtain ⟨gr, hgr⟩ : ∃ gr, gr = w.heap.size := ⟨_, rfl⟩
  obtain ⟨gl, hgl⟩ : ∃ gl, gl = w1.heap.size := ⟨_, rfl⟩
  have H0 := Lib.hid (show VrS w g gr gl 61 128 Z (clF false (fun _ => Tag.zero) (.slice none 0 0)) A n c B L w2 from ⟨(HR.out.up hB1).up hB2, by rw [hgr]; exact h1.up hB2, by rw [hgl, ← HZ.out]; exact h2, .of_below (hB1.trans (hB2.mono hB1.size)), by rw [hgr]; exact HG.out, by have := HG.out; omega, by omega, by omega, by omega⟩)
  have HGL := Lib.hid (show w.heap.size ≤ gr by omega)
  rw [← hgr, ← hgl]
  clear h1 hB1 hs1 h2 hB2 hs2 hgr hgl HR HG
  go_wp2_with fail
  refine (byte_any _ g A n c B L hn H0.out.rd _ aliveB 110 en_alive (fun b W _ => alive_any b W)).mono ?_
  intro e v0 hE
  cases hg0 : byteR aliveB 110 L with
  | error x =>
    obtain ⟨lf, er⟩ := x
    obtain ⟨rfl, hT⟩ := hE.no hg0
    have HT := Lib.hid (H0.out.touch.trans hT)
    have HG := Lib.hid (show clR L = .error (lf, er) by unfold clR; rw [hg0]; rfl)
    clear hE hg0 hT
    go_wp2_with fail
    exact ⟨rfl, ClEnd.bad HG.out rfl HT.out⟩
  | ok x =>
    obtain ⟨xd, L1⟩ := x
    obtain ⟨rfl, hR, hT⟩ := hE.ok hg0
    unfold i64V
    have HCR := Lib.hid (show clR L = if xd = 0 then .ok (deadCl, L1) else bodyR L1 by unfold clR; rw [hg0, bnd_ok])
    have hS := H0.out.read hR hT
    have k0 : v0.cell? ⟨gl, 0, none⟩ = some (.bool false) := hS.var.cell 0 (by decide)
    have f0 : v0.frozen? ⟨gl, 0, none⟩ = false := FB.frozen hS.var 0
    have HS := Lib.hid hS
    clear hS hE hg0 hR hT H0
    by_cases hd : xd = 0
    · subst hd
      have HE := Lib.hid (show clR L = .ok (deadCl, L1) by rw [HCR.out, if_pos rfl])
      clear HCR
      go_upto_region 3 with (fail)
      obtain ⟨u0, hu⟩ : ∃ u, u = v0.setCell ⟨gl, 0, none⟩ (.bool true) := ⟨_, rfl⟩
      have hS1 : VrS w g gr gl 61 128 Z (clF true (fun _ => Tag.zero) (.slice none 0 0)) A n c B L1 u0 := by
        rw [hu]
        exact HS.out.put 0 _ fun q _ => clF_dead _ _ _ _ _
      rw [← hu]
      have k1 : u0.cell? ⟨gl, 0, none⟩ = some (.bool true) := hS1.var.cell 0 (by decide)
      have HS1 := Lib.hid hS1
      clear hu hS1 HS k0 f0
      obtain ⟨F, hF⟩ : ∃ F, F = clF true (fun _ => Tag.zero) (.slice none 0 0) := ⟨_, rfl⟩
      have HO := Lib.hid (show ∀ q, q < 128 → (F q).oneCell' = true by rw [hF]; exact clF_one _ _ _ rfl)
      have H6 := Lib.hid (show FB u0 gl 61 128 F by rw [hF]; exact HS1.out.var)
      have HF := Lib.hid hF
      clear hF
      go_wp2_with (first
        | (refine wpList_load_all rfl 61 _ rfl gl rfl 61 128 F _ H6.out Try.underlying61 rfl sizeClaim ?_)
        | (refine wpList_store_all rfl 61 _ _ rfl gr 61 128 _ F rfl rfl HS1.out.res sizeClaim HO.out ?_; intro w7 h7 hT7 hs7))
      refine bodyPost_ret (result_seg rfl _ _ gr _ 128 _ _ rfl h7 Try.underlying61 rfl sizeClaim) rfl (ClEnd.mk HE.out (by rw [HF.out, dead_tags]; rfl) (OwnR.nil _ _ _ _ _) (HS1.out.rd.far HS1.out.lr hT7) (HS1.out.touch.own HS1.out.nr hT7))
    · have td : (xd == 0) = false := by rw [beq_eq_false_iff_ne]; exact hd
      have HCR2 := Lib.hid (show clR L = bodyR L1 by rw [HCR.out, if_neg hd])
      clear HCR hd
      go_upto_region 3 with (fail)
      obtain ⟨u0, hu⟩ : ∃ u, u = v0.setCell ⟨gl, 0, none⟩ (.bool false) := ⟨_, rfl⟩
      have hS1 : VrS w g gr gl 61 128 Z (clF false (fun _ => Tag.zero) (.slice none 0 0)) A n c B L1 u0 := by
        rw [hu]
        exact HS.out.put 0 _ fun q _ => clF_dead _ _ _ _ _
      rw [← hu]
      have k1 : u0.cell? ⟨gl, 0, none⟩ = some (.bool false) := hS1.var.cell 0 (by decide)
      have HS1 := Lib.hid (show VrS w g gr gl 61 128 Z (clF false (regG []) (.slice none 0 0)) A n c B L1 u0 from hS1)
      clear hu hS1 HS k0 f0 td
      go_wp2_with fail
      clear k1
      go_loopw [4, 12, 14, 15, 16, 17, 18, 19, 20] (fun _ a12 _ _ _ _ _ _ _ wr => ∃ (j : Nat) (l : List Tag) (L' : List Int), j ≤ 10 ∧ a12 = .int .i64 j ∧ l.length = j ∧ VrS w g gr gl 61 128 Z (clF false (regG l) (.slice none 0 0)) A n c B L' wr ∧ manyR (fun _ => tagR false) (10 - j) l L' = regsR L1) (fun _ a12 _ _ _ _ _ _ _ _ => (10 - intOf a12).toNat)
      case atStart => exact ⟨0, [], L1, by omega, rfl, rfl, HS1.out, rfl⟩
      case round =>
        obtain ⟨j, l, L', hj, rfl, hl, hS, hmany⟩ := hrel
        clear HS1
        have HS := Lib.hid hS
        have HMA := Lib.hid hmany
        have HL := Lib.hid hl
        clear hS hmany hl
        by_cases hlt : j < 10
        · have hlt' : (j : Int) < 10 := by omega
          have hstep : manyR (fun _ => tagR false) (10 - j) l L' = bnd (tagR false L') fun a t => manyR (fun _ => tagR false) (10 - (j + 1)) (l ++ [a]) t := by
            rw [show 10 - j = (10 - (j + 1)) + 1 by omega]; rfl
          have HST := Lib.hid hstep
          clear hstep
          go_wp2_with fail
          refine (tag_any _ g A n c B L' hn HS.out.rd false).mono ?_
          intro e w5 hE
          cases hg2 : tagR false L' with
          | error x =>
            obtain ⟨lf, er⟩ := x
            obtain ⟨rfl, hT⟩ := hE.no hg2
            have HT2 := Lib.hid (HS.out.touch.trans hT)
            have HG2 := Lib.hid (show clR L = .error (lf, er) by rw [HCR2.out]; unfold bodyR; rw [← HMA.out, HST.out, hg2]; rfl)
            clear hE hg2 hT
            go_wp2_with fail
            exact ⟨rfl, ClEnd.bad HG2.out rfl HT2.out⟩
          | ok x =>
            obtain ⟨t, L3⟩ := x
            obtain ⟨rfl, hR3, hT⟩ := hE.ok hg2
            unfold tgV
            have HMA2 := Lib.hid (show manyR (fun _ => tagR false) (10 - (j + 1)) (l ++ [t]) L3 = regsR L1 by rw [← HMA.out, HST.out, hg2]; rfl)
            have HS3 := Lib.hid (HS.out.read hR3 hT)
            have HL2 := Lib.hid (show (l ++ [t]).length = j + 1 by rw [List.length_append, HL.out]; rfl)
            clear hE hg2 hR3 hT HS HMA HST
            obtain ⟨F, hF⟩ : ∃ F, F = tgF t := ⟨_, rfl⟩
            have HO := Lib.hid (show ∀ q, q < 3 → (F q).oneCell' = true by rw [hF]; exact tgF_one t)
            rw [← hF]
            have HF := Lib.hid hF
            clear hF
            go_simp
            go_upto_region 9 with (refine wpList_store_seg rfl 56 _ _ rfl gl (1 + j * 3) 61 128 3 _ F rfl rfl HS3.out.var (by omega) sizeTag HO.out ?_; intro w6 h6 hT6 hs6)
            have HS4 := Lib.hid (show VrS w g gr gl 61 128 Z (clF false (regG (l ++ [t])) (.slice none 0 0)) A n c B L3 w6 from HS3.out.own hT6 (h6.congr fun q _ => by rw [HF.out, clF_reg _ _ _ _ (by omega), regG_app, HL.out]))
            clear h6 hT6 hs6 HS3 HF HO HL
            go_wp2_with fail
            go_roundw
            case rel => exact ⟨j + 1, l ++ [t], L3, by omega, by go_num, HL2.out, HS4.out, HMA2.out⟩
            case measure => simp [intOf]; omega
        · obtain rfl : j = 10 := by omega
          have HRG := Lib.hid (show regsR L1 = .ok (l, L') by rw [← HMA.out]; rfl)
          clear HMA hlt hj
          go_wp2_with fail
          refine (stack_any _ g A n c B L' hn HS.out.rd).mono ?_
          intro e w5 hE
          cases hg2 : countR 32 entR L' with
          | error x =>
            obtain ⟨lf, er⟩ := x
            obtain ⟨rfl, hT⟩ := hE.no hg2
            have HT2 := Lib.hid (HS.out.touch.trans hT)
            have HG2 := Lib.hid (show clR L = .error (lf, er) by rw [HCR2.out]; unfold bodyR; rw [HRG.out, bnd_ok, hg2]; rfl)
            clear hE hg2 hT
            go_wp2_with fail
            exact ⟨rfl, ClEnd.bad HG2.out rfl HT2.out⟩
          | ok x =>
            obtain ⟨es, L3⟩ := x
            obtain ⟨rfl, hR3, hT⟩ := hE.ok hg2
            unfold stV
            have HG2 := Lib.hid hg2
            have HS3 := Lib.hid (HS.out.read hR3 hT)
            clear hE hg2 hR3 hT HS
            obtain ⟨F, hF⟩ : ∃ F, F = tsF (stackOf es) := ⟨_, rfl⟩
            have HO := Lib.hid (show ∀ q, q < 96 → (F q).oneCell' = true by rw [hF]; exact tsF_one _ _)
            rw [← hF]
            have HF := Lib.hid hF
            clear hF
            go_simp
            go_upto_region 11 with (refine wpList_store_seg rfl 58 _ _ rfl gl 31 61 128 96 _ F rfl rfl HS3.out.var (by omega) sizeTags32 HO.out ?_; intro w6 h6 hT6 hs6)
            have HS4 := Lib.hid (show VrS w g gr gl 61 128 Z (clF false (fun m => if m < 10 then regG l m else stackOf es (m - 10)) (.slice none 0 0)) A n c B L3 w6 from HS3.out.own hT6 (h6.congr fun q _ => by rw [HF.out, clF_stack]))
            clear h6 hT6 hs6 HS3 HF HO
            go_wp2_with fail
            refine (cons_any _ g A n c B L3 hn HS4.out.rd).mono ?_
            intro e w7 hE
            cases hg3 : countR 3540 conR L3 with
            | error x =>
              obtain ⟨lf, er⟩ := x
              obtain ⟨rfl, hT⟩ := hE.no hg3
              have HT2 := Lib.hid (HS4.out.touch.trans hT)
              have HG3 := Lib.hid (show clR L = .error (lf, er) by rw [HCR2.out]; unfold bodyR; rw [HRG.out, bnd_ok, HG2.out, bnd_ok, hg3]; rfl)
              clear hE hg3 hT
              go_wp2_with fail
              exact ⟨rfl, ClEnd.bad HG3.out rfl HT2.out⟩
            | ok x =>
              obtain ⟨cs, L4⟩ := x
              obtain ⟨v, rfl, hown, hR4, hT⟩ := hE.ok hg3
              have HG3 := Lib.hid (show clR L = .ok (⟨false, l, es, cs⟩, L4) by rw [HCR2.out]; unfold bodyR; rw [HRG.out, bnd_ok, HG2.out, bnd_ok, hg3]; rfl)
              have hS5 := HS4.out.read hR4 hT
              have hv1 := hown.one
              obtain ⟨A7, m7, c7, rfl, -, -, -, -⟩ := hown.form
              have k7 : w7.cell? ⟨gl, 127, none⟩ = some (.slice none 0 0) := hS5.var.cell 127 (by decide)
              have f7 : w7.frozen? ⟨gl, 127, none⟩ = false := FB.frozen hS5.var 127
              have HON := Lib.hid (hown.base HS4.out.touch.size)
              have HNE := Lib.hid (show (Value.slice A7 m7 c7).ownBlock ≠ some gl from hown.ne hS5.var (by decide))
              have HNR := Lib.hid (show (Value.slice A7 m7 c7).ownBlock ≠ some gr from hown.ne hS5.res (by decide))
              have HS5 := Lib.hid hS5
              have HV1 := Lib.hid hv1
              clear hE hg3 hown hR4 hT hS5 hv1 HS4 HRG HG2
              go_upto_region 12 with (fail)
              obtain ⟨u8, hu⟩ : ∃ u, u = w7.setCell ⟨gl, 127, none⟩ (.slice A7 m7 c7) := ⟨_, rfl⟩
              have HS6 := Lib.hid (show VrS w g gr gl 61 128 Z (clF false (fun m => if m < 10 then regG l m else stackOf es (m - 10)) (.slice A7 m7 c7)) A n c B L4 u8 by
                rw [hu]
                exact HS5.out.put 127 _ fun q hq => clF_cons _ _ _ _ _ hq)
              have HON2 := Lib.hid (show OwnR 63 3 coF u8 w.heap.size (.slice A7 m7 c7) cs by rw [hu]; exact HON.out.touch (Touch.set_ w7 127 _) HNE.out)
              rw [← hu]
              clear hu HS5 HON k7 f7
              obtain ⟨F, hF⟩ : ∃ F, F = clF false (fun m => if m < 10 then regG l m else stackOf es (m - 10)) (.slice A7 m7 c7) := ⟨_, rfl⟩
              have HO := Lib.hid (show ∀ q, q < 128 → (F q).oneCell' = true by rw [hF]; exact clF_one _ _ _ HV1.out)
              have H6 := Lib.hid (show FB u8 gl 61 128 F by rw [hF]; exact HS6.out.var)
              have HF := Lib.hid hF
              clear hF
              go_wp2_with (first
                | (refine wpList_load_all rfl 61 _ rfl gl rfl 61 128 F _ H6.out Try.underlying61 rfl sizeClaim ?_)
                | (refine wpList_store_all rfl 61 _ _ rfl gr 61 128 _ F rfl rfl HS6.out.res sizeClaim HO.out ?_; intro w9 h9 hT9 hs9))
              refine bodyPost_ret (result_seg rfl _ _ gr _ 128 _ _ rfl h9 Try.underlying61 rfl sizeClaim) rfl (ClEnd.mk HG3.out (by rw [HF.out]; rfl) (HON2.out.touch hT9 HNR.out) (HS6.out.rd.far HS6.out.lr hT9) (HS6.out.touch.own HS6.out.nr hT9))
end Go.Proofs.Ytbomihdnnidelaa
