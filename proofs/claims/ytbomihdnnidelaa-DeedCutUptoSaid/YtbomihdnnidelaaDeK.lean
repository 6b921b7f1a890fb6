/- Package deed: a deed is read. Laid by wip/tools/mkdek.py. -/
import Derived.Test.YtbomihdnnidelaaDeJ
import Derived.OrdersHeld
namespace Go.Proofs.Ytbomihdnnidelaa
open Go.ChangeShapes Go.WideShapes Go.ChangeAt Go.RowKit
open Dee
set_option linter.unusedVariables false
set_option linter.unusedSimpArgs false
set_option maxRecDepth 100000
theorem infLoop : (Try.prog.info? 54).map (fun i => (i.zero.map Value.cells, i.size, i.bytes)) = some (some (arr 5 (loF ⟨0, 0, 0, 0, 0⟩)), 5, 40) := by kernel_rfl
theorem loF_one (l : Lp) : ∀ q, q < 5 → (loF l q).oneCell' = true := fun q hq => by
  rcases (show q = 0 ∨ q = 1 ∨ q = 2 ∨ q = 3 ∨ q = 4 by omega) with rfl | rfl | rfl | rfl | rfl <;> rfl
/-- a claim and the list in memory of its constraints -/
abbrev Cv := Cl × Value
def cvF (p : Cv) : Nat → Value := clF p.1.dead (tagsOf p.1) p.2
/-- a deed's two cells -/
def deF (a b : Value) : Nat → Value := fun q => if q = 0 then a else b
theorem zeroDeed : (Try.prog.info? 26).bind (fun i => i.zero.map Value.cells) = some (arr 2 (deF (.slice none 0 0) (.slice none 0 0))) := by kernel_rfl
theorem sizeDeed : (Try.prog.info? 26).map (·.size) = some 2 := by kernel_rfl
theorem deF_one {a b : Value} (ha : a.oneCell' = true) (hb : b.oneCell' = true) : ∀ q, q < 2 → (deF a b q).oneCell' = true := fun q _ => by unfold deF; split; exact ha; exact hb
theorem VrS.grown {w0 w w' : World} {g gr gl : Nat} {ty : TypeId} {N : Nat} {z f : Nat → Value} {A : Option Addr} {n c : Nat} {B L : List Int} {row : Option Nat} (h : VrS w0 g gr gl ty N z f A n c B L w) (hg : w.grownBy w' row) (h1 : row ≠ some gr) (h2 : row ≠ some gl) (h3 : ∀ b, row = some b → g < b ∧ w0.heap.size ≤ b) : VrS w0 g gr gl ty N z f A n c B L w' := by
  refine ⟨h.rd.grown hg fun b hb => (h3 b hb).1, ?_, ?_, h.touch.grown hg fun b hb => (h3 b hb).2, h.lr, h.ll, h.ne, h.nr, h.nl⟩
  · exact (hg.block gr h.res.lt (fun e => h1 e.symm)).trans h.res
  · exact (hg.block gl h.var.lt (fun e => h2 e.symm)).trans h.var
/-- each claim's constraints lie in a list that the call owns -/
def ConsIn (w : World) (base : Nat) (l : List Cv) : Prop := ∀ p ∈ l, OwnR 63 3 coF w base p.2 p.1.cons
theorem ConsIn.up {w w' : World} {base : Nat} {l : List Cv} (h : ConsIn w base l) (hb : Below w.heap.size w w') : ConsIn w' base l := fun p hp => (h p hp).up hb
theorem ConsIn.touch {w w' : World} {base g : Nat} {l : List Cv} {t : TypeId} {cs : Array Value} (h : ConsIn w base l) (ht : Touch g w w') (hg : Blk w g t cs) (hne : 63 ≠ t) : ConsIn w' base l := fun p hp => (h p hp).touch ht ((h p hp).ne hg hne)
theorem OwnR.blk {α : Type} {e : TypeId} {s : Nat} {f : α → Nat → Value} {w : World} {base : Nat} {v : Value} {l : List α} (h : OwnR e s f w base v l) {b : Nat} (hb : v.ownBlock = some b) : ∃ cs, Blk w b e cs := by
  rcases h.2 with ⟨hv, _⟩ | ⟨g, cap, cur, hv, _, hh, _⟩
  · rw [hv] at hb; cases hb
  · rw [hv] at hb
    have e1 : g = b := by simpa [Value.ownBlock] using hb
    exact ⟨cur, by rw [← e1]; exact hh⟩
theorem OwnR.far {α β : Type} {e t : TypeId} {s s' : Nat} {f : α → Nat → Value} {f' : β → Nat → Value} {w : World} {base base' : Nat} {v u : Value} {l : List α} {m : List β} (h : OwnR e s f w base v l) (k : OwnR t s' f' w base' u m) (hne : e ≠ t) {b : Nat} (hb : u.ownBlock = some b) : v.ownBlock ≠ some b := by
  obtain ⟨cs, hB⟩ := k.blk hb
  exact h.ne hB hne
theorem OwnR.grown_ {α : Type} {e : TypeId} {s : Nat} {f : α → Nat → Value} {w w' : World} {base : Nat} {v : Value} {l : List α} {row : Option Nat} (h : OwnR e s f w base v l) (hg : w.grownBy w' row) (hr : ∀ b, row = some b → v.ownBlock ≠ some b) : OwnR e s f w' base v l := by
  refine own_keep h fun b hb hlt => hg.block b hlt fun e => ?_
  exact hr b e.symm hb
/-- how the reader of a deed ends -/
def DeEnd (w : World) (g : Nat) (A : Option Addr) (n c : Nat) (B : List Int) (r : Rs De) (e : Ending) (w' : World) : Prop :=
  Touch g w w' ∧ match r with
  | .ok (x, t) => ∃ vl vc cvs, e = .returned (.agg (arr 2 (deF vl vc))) ∧ OwnR 54 5 loF w' w.heap.size vl x.loops ∧ cvs.map Prod.fst = x.claims ∧ OwnR 61 128 cvF w' w.heap.size vc cvs ∧ ConsIn w' w.heap.size cvs ∧ Rd w' g A n c B t
  | .error (lf, er) => e = .panicked (fltV ((n - lf : Nat) : Int) er)
theorem DeEnd.bad {w w' : World} {g : Nat} {A : Option Addr} {n c : Nat} {B : List Int} {r : Rs De} {e : Ending} {lf : Nat} {er : Int} (hr : r = .error (lf, er)) (h1 : e = .panicked (fltV ((n - lf : Nat) : Int) er)) (h4 : Touch g w w') : DeEnd w g A n c B r e w' := by
  subst hr
  exact ⟨h4, h1⟩
set_option maxHeartbeats 16000000 in
theorem deed_any (w : World) (g : Nat) (A : Option Addr) (n c : Nat) (B : List Int) (hn : n ≤ 4194304) (hc : n ≤ c) (h : Rd w g A n c B B) :
    Calls Try.prog 38 #[.pointer (some ⟨g, 0, none⟩)] w (DeEnd w g A n c B (endR B)) := by
  have HR := Lib.hid h
  have HG := Lib.hid h.blk.lt
  have GLT := Lib.hid h.blk.lt
  clear h
  obtain ⟨Z, hZ⟩ : ∃ Z, Z = deF (.slice none 0 0) (.slice none 0 0) := ⟨_, rfl⟩
  have HZ := Lib.hid hZ
  have HZC := Lib.hid (show (Try.prog.info? 26).bind (fun i => i.zero.map Value.cells) = some (arr 2 Z) by rw [hZ]; exact zeroDeed)
  clear hZ
  go_enter Try.func38, Try.ntmps38
  go_upto_region 1 with (refine wpList_alloc_seg rfl 26 rfl 2 Z HZC.out ?_; intro w1 h1 hB1 hs1)
  have HR1 := Lib.hid (HR.out.up hB1)
  have H1 := Lib.hid h1
  have HT1 := Lib.hid (Touch.of_below hB1 (g := g))
  obtain ⟨gr, hgr⟩ : ∃ gr, gr = w.heap.size := ⟨_, rfl⟩
  rw [← hgr] at H1 ⊢
  have HGR := Lib.hid (show g < gr ∧ w.heap.size ≤ gr by have := HG.out; omega)
  clear h1 hB1 hs1 hgr HR HG
  go_wp2_with fail
  refine (mark_any _ g A n c B hn hc HR1.out).mono ?_
  intro e w2 hE
  cases hg0 : markR B with
  | error x =>
    obtain ⟨lf, er⟩ := x
    have HT := Lib.hid (HT1.out.trans hE.1)
    rw [hg0] at hE
    obtain ⟨-, rfl⟩ := hE
    have HG := Lib.hid (show endR B = .error (lf, er) by unfold endR deR; rw [hg0]; rfl)
    clear hg0
    go_wp2_with fail
    exact ⟨rfl, DeEnd.bad HG.out rfl HT.out⟩
  | ok x =>
    obtain ⟨⟨⟩, L0⟩ := x
    have HT2 := Lib.hid (HT1.out.trans hE.1)
    have H2 := Lib.hid (H1.out.touch hE.1 (by have := HGR.out; omega))
    rw [hg0] at hE
    obtain ⟨-, rfl, hR2⟩ := hE
    have HR2 := Lib.hid hR2
    have HMK := Lib.hid hg0
    clear hg0 hR2 HT1 H1 HR1
    go_upto_region 3 with (refine wpList_alloc_seg rfl 26 rfl 2 Z HZC.out ?_; intro w3 h3 hB3 hs3)
    obtain ⟨gl, hgl⟩ : ∃ gl, gl = w2.heap.size := ⟨_, rfl⟩
    rw [← hgl] at h3 ⊢
    have HS0 := Lib.hid (show VrS w g gr gl 26 2 Z (deF (.slice none 0 0) (.slice none 0 0)) A n c B L0 w3 from
      ⟨HR2.out.up hB3, H2.out.up hB3, by rw [← HZ.out]; exact h3, HT2.out.up hB3, HGR.out.1, by have := HR2.out.blk.lt; omega, by have := H2.out.lt; omega, HGR.out.2, by have := HT2.out.size; omega⟩)
    clear h3 hB3 hs3 hgl HR2 H2 HT2 HGR
    go_wp2_with fail
    refine (count_any _ g A n c B L0 hn HS0.out.rd 8).mono ?_
    intro e aw0 hE
    cases hg1 : numR (mostB 8) 112 L0 with
    | error x =>
      obtain ⟨lf, er⟩ := x
      obtain ⟨rfl, hT⟩ := hE.no hg1
      have HT := Lib.hid (HS0.out.touch.trans hT)
      have HG := Lib.hid (show endR B = .error (lf, er) by unfold endR deR; rw [HMK.out, bnd_ok, countR_err (p := (fun _ => loopR)) hg1]; rfl)
      clear hE hg1 hT
      go_wp2_with fail
      exact ⟨rfl, DeEnd.bad HG.out rfl HT.out⟩
    | ok x =>
      obtain ⟨k0, aL1⟩ := x
      obtain ⟨rfl, hR, hT⟩ := hE.ok hg1
      obtain ⟨aK, rfl, ahK⟩ := count_fits (m := 8) HS0.out.rd.byteL hg1
      unfold i64V
      have aHCR := Lib.hid (show countR 8 (fun _ => loopR) L0 = manyR (fun _ => loopR) aK [] aL1 by unfold countR; rw [hg1, bnd_ok]; rfl)
      have aHS1 := Lib.hid (HS0.out.read hR hT)
      clear hE hg1 hR hT HS0
      go_wp2_with fail
      go_loopw [8, 10, 11, 12, 13, 14, 15, 16] (fun a8 _ _ _ _ _ _ _ wr => ∃ (j : Nat) (l : List Lp) (L' : List Int) (vl : Value), j ≤ aK ∧ a8 = .int .i64 j ∧ l.length = j ∧ VrS w g gr gl 26 2 Z (deF vl (.slice none 0 0)) A n c B L' wr ∧ OwnR 54 5 loF wr w.heap.size vl l ∧ manyR (fun _ => loopR) (aK - j) l L' = manyR (fun _ => loopR) aK [] aL1) (fun a8 _ _ _ _ _ _ _ _ => (aK - intOf a8).toNat)
      case atStart => exact ⟨0, [], aL1, .slice none 0 0, by omega, rfl, rfl, aHS1.out, OwnR.nil _ _ _ _ _, rfl⟩
      case round =>
        obtain ⟨j, l, L', vl, hj, rfl, hl, hS, hown, hmany⟩ := hrel
        clear aHS1
        have HS := Lib.hid hS
        have HMA := Lib.hid hmany
        have HL := Lib.hid hl
        have HO := Lib.hid hown
        clear hS hmany hl hown
        by_cases hlt : j < aK
        · have hlt' : (j : Int) < aK := by omega
          have hstep : manyR (fun _ => loopR) (aK - j) l L' = bnd (loopR L') fun a t => manyR (fun _ => loopR) (aK - (j + 1)) (l ++ [a]) t := by
            rw [show aK - j = (aK - (j + 1)) + 1 by omega]; rfl
          have HST := Lib.hid hstep
          clear hstep
          go_wp2_with fail
          obtain ⟨A7, m7, c7, rfl, hm7, -, -, -⟩ := HO.out.form
          have HM7 := Lib.hid (show m7 = l.length from hm7.out)
          clear hm7
          have y0 : wr.cell? ⟨gl, 0, none⟩ = some (.slice A7 m7 c7) := HS.out.var.cell 0 (by decide)
          have HSD := Lib.hid (show VrS w g gr gl 26 2 Z (deF (.slice A7 m7 c7) (.slice none 0 0)) A n c B L' wr.drew from HS.out.up ⟨rfl, rfl, rfl, Nat.le_refl _, fun _ _ => rfl⟩)
          have HOD := Lib.hid (show OwnR 54 5 loF wr.drew w.heap.size (.slice A7 m7 c7) l from HO.out.up ⟨rfl, rfl, rfl, Nat.le_refl _, fun _ _ => rfl⟩)
          clear HS HO
          refine wp_region_last (n := 7) (S := fun w' => w'.cell? ⟨gl, 0, none⟩ = some (.slice A7 m7 c7)) (by kernel_rfl) (by kernel_rfl) (by kernel_rfl) (by kernel_rfl) rfl y0 (fun hHeld => ?_)
          clear y0
          refine wpAnyH_take (i := 0) (oi := _) (v := .pointer (some ⟨gl, 0, none⟩)) rfl (by kernel_rfl) (by kernel_rfl) (by kernel_rfl) (fun _ _ _ h => h) (Or.inl ⟨by rfl, ?_⟩) hHeld ?_
          · intro w hSw
            go_simp
          try simp only [Act.put, List.setIfInBounds_toArray, List.set_cons_zero, List.set_cons_succ]
          refine wpAnyH_take (i := 1) (oi := _) (v := .slice A7 m7 c7) rfl (by kernel_rfl) (by kernel_rfl) (by kernel_rfl) (fun _ _ _ h => h) (Or.inl ⟨by rfl, ?_⟩) hHeld ?_
          · intro w hSw
            go_simp
          try simp only [Act.put, List.setIfInBounds_toArray, List.set_cons_zero, List.set_cons_succ]
          refine wpAnyH_take (i := 2) (oi := _) (v := .pointer (some ⟨g, 0, none⟩)) rfl (by kernel_rfl) (by kernel_rfl) (by kernel_rfl) (fun _ _ _ h => h) (Or.inl ⟨by rfl, ?_⟩) hHeld ?_
          · intro w hSw
            go_simp
          try simp only [Act.put, List.setIfInBounds_toArray, List.set_cons_zero, List.set_cons_succ]
          clear hHeld
          refine wpAnyH_ready (rs := [3]) (by kernel_rfl) (by simp) ?_
          refine AllReadyH.cons rfl (fun K hK => ?_) AllReadyH.nil
          go_simp
          refine (loop_any _ g A n c B L' hn HSD.out.rd).mono ?_
          intro e w4 hE
          cases hg2 : loopR L' with
          | error x =>
            obtain ⟨lf, er⟩ := x
            obtain ⟨rfl, hT⟩ := hE.no hg2
            have HT2 := Lib.hid (HSD.out.touch.trans hT)
            have HG2 := Lib.hid (show endR B = .error (lf, er) by unfold endR deR; rw [HMK.out, bnd_ok, aHCR.out, ← HMA.out, HST.out, hg2]; rfl)
            clear hE hg2 hT hK
            go_wp2_with fail
            exact ⟨rfl, DeEnd.bad HG2.out rfl HT2.out⟩
          | ok x =>
            obtain ⟨y, L3⟩ := x
            obtain ⟨rfl, hR3, hT⟩ := hE.ok hg2
            have HMA2 := Lib.hid (show manyR (fun _ => loopR) (aK - (j + 1)) (l ++ [y]) L3 = manyR (fun _ => loopR) aK [] aL1 by rw [← HMA.out, HST.out, hg2]; rfl)
            have HS4 := Lib.hid (HSD.out.read hR3 hT)
            have HO4 := Lib.hid (HOD.out.touch hT (HOD.out.ne HSD.out.rd.blk (by decide)))
            have HL2 := Lib.hid (show (l ++ [y]).length = j + 1 by rw [List.length_append, HL.out]; rfl)
            clear hE hg2 hR3 hT HSD HOD HMA HST
            obtain ⟨F, hF⟩ : ∃ F, F = loF y := ⟨_, rfl⟩
            have HOn := Lib.hid (show ∀ q, q < 5 → (F q).oneCell' = true by rw [hF]; exact loF_one y)
            have HF := Lib.hid hF
            rw [show loV y = .agg (arr 5 F) by rw [hF]; rfl]
            clear hF
            go_simp
            refine hK.out _ _ (HS4.out.var.cell 0 (by decide)) (fun hHeld => ?_)
            clear hK K hHeld
            try simp only [Act.put, List.setIfInBounds_toArray, List.set_cons_zero, List.set_cons_succ]
            refine wpAnyH_ready (rs := [4]) (by kernel_rfl) (by simp) ?_
            refine AllReadyH.cons rfl (fun K hK => ?_) AllReadyH.nil
            refine wp_slice1_seg 23 54 _ rfl 5 F (loF ⟨0, 0, 0, 0, 0⟩) rfl Try.underlying23 zeroLoop sizeLoop (by decide) (by decide) ?_
            intro w5 h5 hB5 hs5
            have HS5 := Lib.hid (HS4.out.up hB5)
            have HO5 := Lib.hid (HO4.out.up hB5)
            refine hK.out _ _ (HS5.out.var.cell 0 (by decide)) (fun hHeld => ?_)
            clear hK K hHeld
            try simp only [Act.put, List.setIfInBounds_toArray, List.set_cons_zero, List.set_cons_succ]
            refine wpAnyH_ready (rs := [5]) (by kernel_rfl) (by simp) ?_
            refine AllReadyH.cons rfl (fun K hK => ?_) AllReadyH.nil
            refine step_append_row 23 54 5 40 loF (loF ⟨0, 0, 0, 0, 0⟩) Try.underlying23 infLoop (by decide) w5 rfl (.tmp 11) (.tmp 14) rfl w.heap.size _ l rfl HO5.out w4.heap.size y rfl (by rw [← HF.out]; exact h5) (by rw [← HF.out]; exact HOn.out) (by have := HL.out; omega) (by have := HL.out; unfold maxLen; omega) (by have := HS5.out.touch.size; omega) ?_
            intro v6 w6 h6 hB6 hg6
            have hne1 : (Value.slice A7 m7 c7).ownBlock ≠ some gr := HO5.out.ne HS5.out.res (by decide)
            have hne2 : (Value.slice A7 m7 c7).ownBlock ≠ some gl := HO5.out.ne HS5.out.var (by decide)
            have HS6 := Lib.hid (HS5.out.grown hg6 hne1 hne2 (fun b hb => by have h1 := (HO5.out.lo hb).1; have h2 := HS5.out.nr; have h3 := HS5.out.rd.blk.lt; exact ⟨Nat.lt_of_lt_of_le (GLT.out) h1, h1⟩))
            have HO6 := Lib.hid h6
            clear h5 hB5 hs5 h6 hB6 hne1 hne2 HS5 HO5 hg6
            refine hK.out _ _ (HS6.out.var.cell 0 (by decide)) (fun hHeld => ?_)
            clear hK K
            try simp only [Act.put, List.setIfInBounds_toArray, List.set_cons_zero, List.set_cons_succ]
            refine wpAnyH_take (i := 6) (oi := _) (v := .pointer (some ⟨gl, 0, none⟩)) rfl (by kernel_rfl) (by kernel_rfl) (by kernel_rfl) (fun _ _ _ h => h) (Or.inl ⟨by rfl, ?_⟩) hHeld ?_
            · intro w hSw
              go_simp
            try simp only [Act.put, List.setIfInBounds_toArray, List.set_cons_zero, List.set_cons_succ]
            clear hHeld
            refine wpAnyH_done (by kernel_rfl) ?_ _
            have m0 : w6.cell? ⟨gl, 0, none⟩ = some (.slice A7 m7 c7) := HS6.out.var.cell 0 (by decide)
            have m1 : w6.frozen? ⟨gl, 0, none⟩ = false := FB.frozen HS6.out.var 0
            obtain ⟨A8, m8, c8, rfl, -, -, -, -⟩ := HO6.out.form
            have HS7 := Lib.hid (show VrS w g gr gl 26 2 Z (deF (.slice A8 m8 c8) (.slice none 0 0)) A n c B L3 (w6.setCell ⟨gl, 0, none⟩ (.slice A8 m8 c8)) from
              HS6.out.put 0 _ fun q hq => by rcases (show q = 0 ∨ q = 1 by omega) with rfl | rfl <;> rfl)
            have HO7 := Lib.hid (HO6.out.touch (Touch.set_ w6 0 (.slice A8 m8 c8)) (HO6.out.ne HS6.out.var (by decide)))
            unfold Ahead
            refine wpOp_step rfl fun K' hK' => ?_
            go_simp
            refine hK' _ _ ?_
            clear hK' m0 m1
            obtain ⟨w8, hw8⟩ : ∃ w8, w8 = w6.setCell ⟨gl, 0, none⟩ (.slice A8 m8 c8) := ⟨_, rfl⟩
            rw [← hw8] at HS7 HO7 ⊢
            clear hw8 HS6 HO6
            simp only [Exit.inBlock]
            go_wp2_with fail
            go_roundw
            case rel => exact ⟨j + 1, l ++ [y], L3, _, by omega, by go_num, HL2.out, HS7.out, HO7.out, HMA2.out⟩
            case measure => simp [intOf]; omega
        · have hjK : j = aK := by omega
          have aHE := Lib.hid (show countR 8 (fun _ => loopR) L0 = .ok (l, L') by rw [aHCR.out, ← HMA.out, hjK, Nat.sub_self]; rfl)
          have hlt' : decide (j < aK) = false := by simp; omega
          clear hjK HMA
          obtain ⟨Al, ml, cl, rfl, -, -, -, -⟩ := HO.out.form
          obtain ⟨l1, hl1⟩ : ∃ l1, l1 = l := ⟨_, rfl⟩
          rw [← hl1] at HO aHE
          clear hl1 HL l
          obtain ⟨Lm, hLm⟩ : ∃ x, x = L' := ⟨_, rfl⟩
          rw [← hLm] at HS aHE
          clear hLm L'
          go_wp2_with fail
          refine (count_any _ g A n c B Lm hn HS.out.rd 512).mono ?_
          intro e bw0 hE
          cases hg1 : numR (mostB 512) 112 Lm with
          | error x =>
            obtain ⟨lf, er⟩ := x
            obtain ⟨rfl, hT⟩ := hE.no hg1
            have HT := Lib.hid (HS.out.touch.trans hT)
            have HG := Lib.hid (show endR B = .error (lf, er) by unfold endR deR; rw [HMK.out, bnd_ok, aHE.out, bnd_ok, countR_err (p := (fun _ => clR)) hg1]; rfl)
            clear hE hg1 hT
            go_wp2_with fail
            exact ⟨rfl, DeEnd.bad HG.out rfl HT.out⟩
          | ok x =>
            obtain ⟨k0, bL1⟩ := x
            obtain ⟨rfl, hR, hT⟩ := hE.ok hg1
            obtain ⟨bK, rfl, bhK⟩ := count_fits (m := 512) HS.out.rd.byteL hg1
            unfold i64V
            have bHCR := Lib.hid (show countR 512 (fun _ => clR) Lm = manyR (fun _ => clR) bK [] bL1 by unfold countR; rw [hg1, bnd_ok]; rfl)
            have bHS1 := Lib.hid (HS.out.read hR hT)
            have bHLO := Lib.hid (HO.out.touch hT (HO.out.ne HS.out.rd.blk (by decide)))
            clear HO
            clear hE hg1 hR hT HS
            go_wp2_with fail
            go_loopw [20, 22, 23, 24, 25, 26, 27, 28] (fun a8 _ _ _ _ _ _ _ wr => ∃ (j : Nat) (l : List Cl) (L' : List Int) (vc : Value) (cvs : List Cv), j ≤ bK ∧ a8 = .int .i64 j ∧ l.length = j ∧ VrS w g gr gl 26 2 Z (deF (.slice Al ml cl) vc) A n c B L' wr ∧ OwnR 61 128 cvF wr w.heap.size vc cvs ∧ cvs.map Prod.fst = l ∧ ConsIn wr w.heap.size cvs ∧ OwnR 54 5 loF wr w.heap.size (.slice Al ml cl) l1 ∧ manyR (fun _ => clR) (bK - j) l L' = manyR (fun _ => clR) bK [] bL1) (fun a8 _ _ _ _ _ _ _ _ => (bK - intOf a8).toNat)
            case atStart => exact ⟨0, [], bL1, .slice none 0 0, [], by omega, rfl, rfl, bHS1.out, OwnR.nil _ _ _ _ _, rfl, (fun _ hp => by cases hp), bHLO.out, rfl⟩
            case round =>
              obtain ⟨j, l, L', vc, cvs, hj, rfl, hl, hS, hown, hmap, hcons, hloops, hmany⟩ := hrel
              clear bHS1 bHLO
              have HS := Lib.hid hS
              have HMA := Lib.hid hmany
              have HL := Lib.hid hl
              have HO := Lib.hid hown
              have HMP := Lib.hid hmap
              have HCN := Lib.hid hcons
              have HLO := Lib.hid hloops
              clear hS hmany hl hown hmap hcons hloops
              by_cases hlt : j < bK
              · have hlt' : (j : Int) < bK := by omega
                have hstep : manyR (fun _ => clR) (bK - j) l L' = bnd (clR L') fun a t => manyR (fun _ => clR) (bK - (j + 1)) (l ++ [a]) t := by
                  rw [show bK - j = (bK - (j + 1)) + 1 by omega]; rfl
                have HST := Lib.hid hstep
                clear hstep
                go_wp2_with fail
                obtain ⟨A7, m7, c7, rfl, hm7, -, -, -⟩ := HO.out.form
                have HM7 := Lib.hid (show m7 = cvs.length from hm7.out)
                clear hm7
                have y0 : wr.cell? ⟨gl, 1, none⟩ = some (.slice A7 m7 c7) := HS.out.var.cell 1 (by decide)
                have HSD := Lib.hid (show VrS w g gr gl 26 2 Z (deF (.slice Al ml cl) (.slice A7 m7 c7)) A n c B L' wr.drew from HS.out.up ⟨rfl, rfl, rfl, Nat.le_refl _, fun _ _ => rfl⟩)
                have HOD := Lib.hid (show OwnR 61 128 cvF wr.drew w.heap.size (.slice A7 m7 c7) cvs from HO.out.up ⟨rfl, rfl, rfl, Nat.le_refl _, fun _ _ => rfl⟩)
                have HCND := Lib.hid (show ConsIn wr.drew w.heap.size cvs from HCN.out.up ⟨rfl, rfl, rfl, Nat.le_refl _, fun _ _ => rfl⟩)
                have HLOD := Lib.hid (show OwnR 54 5 loF wr.drew w.heap.size (.slice Al ml cl) l1 from HLO.out.up ⟨rfl, rfl, rfl, Nat.le_refl _, fun _ _ => rfl⟩)
                clear HCN HLO
                clear HS HO
                refine wp_region_last (n := 7) (S := fun w' => w'.cell? ⟨gl, 1, none⟩ = some (.slice A7 m7 c7)) (by kernel_rfl) (by kernel_rfl) (by kernel_rfl) (by kernel_rfl) rfl y0 (fun hHeld => ?_)
                clear y0
                refine wpAnyH_take (i := 0) (oi := _) (v := .pointer (some ⟨gl, 1, none⟩)) rfl (by kernel_rfl) (by kernel_rfl) (by kernel_rfl) (fun _ _ _ h => h) (Or.inl ⟨by rfl, ?_⟩) hHeld ?_
                · intro w hSw
                  go_simp
                try simp only [Act.put, List.setIfInBounds_toArray, List.set_cons_zero, List.set_cons_succ]
                refine wpAnyH_take (i := 1) (oi := _) (v := .slice A7 m7 c7) rfl (by kernel_rfl) (by kernel_rfl) (by kernel_rfl) (fun _ _ _ h => h) (Or.inl ⟨by rfl, ?_⟩) hHeld ?_
                · intro w hSw
                  go_simp
                try simp only [Act.put, List.setIfInBounds_toArray, List.set_cons_zero, List.set_cons_succ]
                refine wpAnyH_take (i := 2) (oi := _) (v := .pointer (some ⟨g, 0, none⟩)) rfl (by kernel_rfl) (by kernel_rfl) (by kernel_rfl) (fun _ _ _ h => h) (Or.inl ⟨by rfl, ?_⟩) hHeld ?_
                · intro w hSw
                  go_simp
                try simp only [Act.put, List.setIfInBounds_toArray, List.set_cons_zero, List.set_cons_succ]
                clear hHeld
                refine wpAnyH_ready (rs := [3]) (by kernel_rfl) (by simp) ?_
                refine AllReadyH.cons rfl (fun K hK => ?_) AllReadyH.nil
                go_simp
                refine (claim_any _ g A n c B L' hn HSD.out.rd).mono ?_
                intro e w4 hE
                cases hg2 : clR L' with
                | error x =>
                  obtain ⟨lf, er⟩ := x
                  obtain ⟨rfl, hT⟩ := hE.no hg2
                  have HT2 := Lib.hid (HSD.out.touch.trans hT)
                  have HG2 := Lib.hid (show endR B = .error (lf, er) by unfold endR deR; rw [HMK.out, bnd_ok, aHE.out, bnd_ok, bHCR.out, ← HMA.out, HST.out, hg2]; rfl)
                  clear hE hg2 hT hK
                  go_wp2_with fail
                  exact ⟨rfl, DeEnd.bad HG2.out rfl HT2.out⟩
                | ok x =>
                  obtain ⟨y, L3⟩ := x
                  obtain ⟨vy, rfl, hown3, hR3, hT⟩ := hE.ok hg2
                  have HMA2 := Lib.hid (show manyR (fun _ => clR) (bK - (j + 1)) (l ++ [y]) L3 = manyR (fun _ => clR) bK [] bL1 by rw [← HMA.out, HST.out, hg2]; rfl)
                  have HS4 := Lib.hid (HSD.out.read hR3 hT)
                  have HO4 := Lib.hid (HOD.out.touch hT (HOD.out.ne HSD.out.rd.blk (by decide)))
                  have HL2 := Lib.hid (show (l ++ [y]).length = j + 1 by rw [List.length_append, HL.out]; rfl)
                  have HCN4 := Lib.hid (show ConsIn w4 w.heap.size (cvs ++ [(y, vy)]) from fun p hp => by
                    rcases List.mem_append.1 hp with h1 | h1
                    · exact HCND.out.touch hT HSD.out.rd.blk (by decide) p h1
                    · have e1 : p = (y, vy) := by simpa using h1
                      rw [e1]
                      exact hown3.base (by have := HSD.out.touch.size; exact this))
                  have HLO4 := Lib.hid (HLOD.out.touch hT (HLOD.out.ne HSD.out.rd.blk (by decide)))
                  have HMP2 := Lib.hid (show (cvs ++ [(y, vy)]).map Prod.fst = l ++ [y] by rw [List.map_append, HMP.out]; rfl)
                  clear HCND HLOD
                  clear hE hg2 hR3 hT HSD HOD HMA HST
                  obtain ⟨F, hF⟩ : ∃ F, F = cvF (y, vy) := ⟨_, rfl⟩
                  have HOn := Lib.hid (show ∀ q, q < 128 → (F q).oneCell' = true by rw [hF]; exact clF_one _ _ _ hown3.one)
                  have HF := Lib.hid hF
                  rw [show (Value.agg (arr 128 (clF y.dead (tagsOf y) vy))) = .agg (arr 128 F) by rw [hF]; rfl]
                  clear hown3
                  clear hF
                  go_simp
                  refine hK.out _ _ (HS4.out.var.cell 1 (by decide)) (fun hHeld => ?_)
                  clear hK K hHeld
                  try simp only [Act.put, List.setIfInBounds_toArray, List.set_cons_zero, List.set_cons_succ]
                  refine wpAnyH_ready (rs := [4]) (by kernel_rfl) (by simp) ?_
                  refine AllReadyH.cons rfl (fun K hK => ?_) AllReadyH.nil
                  refine wp_slice1_seg 24 61 _ rfl 128 F (clF false (fun _ => Tag.zero) (.slice none 0 0)) rfl Try.underlying24 zeroClaim sizeClaim (by decide) (by decide) ?_
                  intro w5 h5 hB5 hs5
                  have HS5 := Lib.hid (HS4.out.up hB5)
                  have HO5 := Lib.hid (HO4.out.up hB5)
                  have HCN5 := Lib.hid (HCN4.out.up hB5)
                  have HLO5 := Lib.hid (HLO4.out.up hB5)
                  clear HCN4 HLO4
                  refine hK.out _ _ (HS5.out.var.cell 1 (by decide)) (fun hHeld => ?_)
                  clear hK K hHeld
                  try simp only [Act.put, List.setIfInBounds_toArray, List.set_cons_zero, List.set_cons_succ]
                  refine wpAnyH_ready (rs := [5]) (by kernel_rfl) (by simp) ?_
                  refine AllReadyH.cons rfl (fun K hK => ?_) AllReadyH.nil
                  refine step_append_row 24 61 128 1040 cvF (clF false (fun _ => Tag.zero) (.slice none 0 0)) Try.underlying24 infClaim (by decide) w5 rfl (.tmp 23) (.tmp 26) rfl w.heap.size _ cvs rfl HO5.out w4.heap.size (y, vy) rfl (by rw [← HF.out]; exact h5) (by rw [← HF.out]; exact HOn.out) (by have := HL.out; have h9 := congrArg List.length HMP.out; rw [List.length_map] at h9; omega) (by have := HL.out; have h9 := congrArg List.length HMP.out; rw [List.length_map] at h9; unfold maxLen; omega) (by have := HS5.out.touch.size; omega) ?_
                  intro v6 w6 h6 hB6 hg6
                  have hne1 : (Value.slice A7 m7 c7).ownBlock ≠ some gr := HO5.out.ne HS5.out.res (by decide)
                  have hne2 : (Value.slice A7 m7 c7).ownBlock ≠ some gl := HO5.out.ne HS5.out.var (by decide)
                  have HS6 := Lib.hid (HS5.out.grown hg6 hne1 hne2 (fun b hb => by have h1 := (HO5.out.lo hb).1; have h2 := HS5.out.nr; have h3 := HS5.out.rd.blk.lt; exact ⟨Nat.lt_of_lt_of_le (GLT.out) h1, h1⟩))
                  have HO6 := Lib.hid h6
                  have HCN6 := Lib.hid (show ConsIn w6 w.heap.size (cvs ++ [(y, vy)]) from fun p hp => (HCN5.out p hp).grown_ hg6 (fun b hb => (HCN5.out p hp).far HO5.out (by decide) hb))
                  have HLO6 := Lib.hid (HLO5.out.grown_ hg6 (fun b hb => HLO5.out.far HO5.out (by decide) hb))
                  clear HCN5 HLO5
                  clear h5 hB5 hs5 h6 hB6 hne1 hne2 HS5 HO5 hg6
                  refine hK.out _ _ (HS6.out.var.cell 1 (by decide)) (fun hHeld => ?_)
                  clear hK K
                  try simp only [Act.put, List.setIfInBounds_toArray, List.set_cons_zero, List.set_cons_succ]
                  refine wpAnyH_take (i := 6) (oi := _) (v := .pointer (some ⟨gl, 1, none⟩)) rfl (by kernel_rfl) (by kernel_rfl) (by kernel_rfl) (fun _ _ _ h => h) (Or.inl ⟨by rfl, ?_⟩) hHeld ?_
                  · intro w hSw
                    go_simp
                  try simp only [Act.put, List.setIfInBounds_toArray, List.set_cons_zero, List.set_cons_succ]
                  clear hHeld
                  refine wpAnyH_done (by kernel_rfl) ?_ _
                  have m0 : w6.cell? ⟨gl, 1, none⟩ = some (.slice A7 m7 c7) := HS6.out.var.cell 1 (by decide)
                  have m1 : w6.frozen? ⟨gl, 1, none⟩ = false := FB.frozen HS6.out.var 1
                  obtain ⟨A8, m8, c8, rfl, -, -, -, -⟩ := HO6.out.form
                  have HS7 := Lib.hid (show VrS w g gr gl 26 2 Z (deF (.slice Al ml cl) (.slice A8 m8 c8)) A n c B L3 (w6.setCell ⟨gl, 1, none⟩ (.slice A8 m8 c8)) from
                    HS6.out.put 1 _ fun q hq => by rcases (show q = 0 ∨ q = 1 by omega) with rfl | rfl <;> rfl)
                  have HO7 := Lib.hid (HO6.out.touch (Touch.set_ w6 1 (.slice A8 m8 c8)) (HO6.out.ne HS6.out.var (by decide)))
                  have HCN7 := Lib.hid (HCN6.out.touch (Touch.set_ w6 1 (.slice A8 m8 c8)) HS6.out.var (by decide))
                  have HLO7 := Lib.hid (HLO6.out.touch (Touch.set_ w6 1 (.slice A8 m8 c8)) (HLO6.out.ne HS6.out.var (by decide)))
                  clear HCN6 HLO6
                  unfold Ahead
                  refine wpOp_step rfl fun K' hK' => ?_
                  go_simp
                  refine hK' _ _ ?_
                  clear hK' m0 m1
                  obtain ⟨w8, hw8⟩ : ∃ w8, w8 = w6.setCell ⟨gl, 1, none⟩ (.slice A8 m8 c8) := ⟨_, rfl⟩
                  rw [← hw8] at HS7 HO7 HCN7 HLO7 ⊢
                  clear hw8 HS6 HO6
                  simp only [Exit.inBlock]
                  go_wp2_with fail
                  go_roundw
                  case rel => exact ⟨j + 1, l ++ [y], L3, _, cvs ++ [(y, vy)], by omega, by go_num, HL2.out, HS7.out, HO7.out, HMP2.out, HCN7.out, HLO7.out, HMA2.out⟩
                  case measure => simp [intOf]; omega
              · have hjK : j = bK := by omega
                have bHE := Lib.hid (show countR 512 (fun _ => clR) Lm = .ok (l, L') by rw [bHCR.out, ← HMA.out, hjK, Nat.sub_self]; rfl)
                have hlt' : decide (j < bK) = false := by simp; omega
                clear hjK HMA
                have hRd := HS.out.rd
                have x0 : wr.cell? ⟨g, 0, none⟩ = some (.slice A n c) := hRd.blk.cell 0
                have x1 := hRd.at1
                have hDR := show deR B = .ok (⟨l1, l⟩, L') by unfold deR; rw [HMK.out, bnd_ok, aHE.out, bnd_ok, bHE.out]; rfl
                have HDR := Lib.hid hDR
                have HRD := Lib.hid hRd
                have hle := hRd.le
                obtain ⟨p, hp⟩ : ∃ p : Nat, p = n - L'.length := ⟨_, rfl⟩
                rw [← hp] at x1
                have HPE := Lib.hid (show (p : Int) = ((n - L'.length : Nat) : Int) by rw [hp])
                clear hRd hDR HMK aHE bHE
                go_upto_region 11 with (fail)
                by_cases he : L' = []
                · have hpn : p = n := by rw [he] at hp; simpa using hp
                  subst hpn
                  have HEN := Lib.hid (show endR B = .ok (⟨l1, l⟩, L') by unfold endR; rw [HDR.out, bnd_ok, if_pos he])
                  clear he hp hle
                  refine wp_region_tail 14 (by kernel_rfl) (by kernel_rfl) fun W hW => ?_
                  simp only [List.take_succ_cons, List.take_zero, List.drop_succ_cons, List.drop_zero]
                  have y0 : W.cell? ⟨g, 0, none⟩ = some (.slice A p c) := by rw [hW]; exact x0
                  have y1 : W.cell? ⟨g, 1, none⟩ = some (.int .i64 (p : Int)) := by rw [hW]; exact x1
                  have hbd : Below wr.heap.size wr W := by rw [hW]; exact ⟨rfl, rfl, rfl, Nat.le_refl _, fun _ _ => rfl⟩
                  have HS9 := Lib.hid (HS.out.up hbd)
                  have HO9 := Lib.hid (HO.out.up hbd)
                  have HCN9 := Lib.hid (HCN.out.up hbd)
                  have HLO9 := Lib.hid (HLO.out.up hbd)
                  clear x0 x1 hW hbd HS HO HCN HLO HRD
                  iterate 14 still_step
                  refine wpStill_nil ?_
                  go_wp2_with fail
                  refine (need_yes _ _ _).mono ?_
                  rintro e w' ⟨rfl, rfl⟩
                  obtain ⟨F, hF⟩ : ∃ F, F = deF (.slice Al ml cl) vc := ⟨_, rfl⟩
                  have HOn := Lib.hid (show ∀ q, q < 2 → (F q).oneCell' = true by rw [hF]; exact deF_one rfl HO9.out.one)
                  have H6 := Lib.hid (show FB W gl 26 2 F by rw [hF]; exact HS9.out.var)
                  have HF := Lib.hid hF
                  clear hF
                  go_wp2_with (first
                    | (refine wpList_load_all rfl 26 _ rfl gl rfl 26 2 F _ H6.out Try.underlying26 rfl sizeDeed ?_)
                    | (refine wpList_store_all rfl 26 _ _ rfl gr 26 2 _ F rfl rfl HS9.out.res sizeDeed HOn.out ?_; intro w9 h9 hT9 hs9))
                  refine bodyPost_ret (result_seg rfl _ _ gr _ 2 _ _ rfl h9 Try.underlying26 rfl sizeDeed) rfl ⟨HS9.out.touch.own HS9.out.nr hT9, ?_⟩
                  rw [HEN.out]
                  exact ⟨_, vc, cvs, by rw [HF.out], HLO9.out.touch hT9 (HLO9.out.ne HS9.out.res (by decide)), HMP.out, HO9.out.touch hT9 (HO9.out.ne HS9.out.res (by decide)), HCN9.out.touch hT9 HS9.out.res (by decide), HS9.out.rd.far HS9.out.lr hT9⟩
                · have hpn : p < n := by
                    cases L' with
                    | nil => exact absurd rfl he
                    | cons a t => simp at hle hp; omega
                  have tpn : ((p : Int) == (n : Int)) = false := by rw [beq_eq_false_iff_ne]; omega
                  have HEN := Lib.hid (show endR B = .error (L'.length, 110) by unfold endR; rw [HDR.out, bnd_ok, if_neg he])
                  clear he hp hle hpn
                  refine wp_region_tail 14 (by kernel_rfl) (by kernel_rfl) fun W hW => ?_
                  simp only [List.take_succ_cons, List.take_zero, List.drop_succ_cons, List.drop_zero]
                  have y0 : W.cell? ⟨g, 0, none⟩ = some (.slice A n c) := by rw [hW]; exact x0
                  have y1 : W.cell? ⟨g, 1, none⟩ = some (.int .i64 (p : Int)) := by rw [hW]; exact x1
                  have HT9 := Lib.hid (show Touch g w W by rw [hW]; exact HS.out.touch.trans (Touch.drewN wr 1))
                  clear x0 x1 hW HS HO HCN HLO HRD
                  iterate 14 still_step
                  refine wpStill_nil ?_
                  go_wp2_with fail
                  refine (need_no _ _ _).mono ?_
                  rintro e w' ⟨rfl, rfl⟩
                  exact ⟨rfl, DeEnd.bad HEN.out (by rw [HPE.out]) HT9.out⟩
end Go.Proofs.Ytbomihdnnidelaa
