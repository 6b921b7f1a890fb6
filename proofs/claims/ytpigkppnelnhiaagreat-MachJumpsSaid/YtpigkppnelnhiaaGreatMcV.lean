/- Package mach: Run. -/
import Derived.Test.YtpigkppnelnhiaaGreatMcU
import Derived.Laws.ResultCell
namespace Go.Proofs.YtpigkppnelnhiaaGreat
open Go.ChangeShapes Go.WideShapes Go.ChangeAt Go.RowKit
set_option linter.unusedVariables false
set_option linter.unusedSimpArgs false
set_option maxRecDepth 100000
theorem results_cell_tmp_row {fn : Func} {p u : Tmp} {ty : TypeId} (h : fn.results = #[.cell p ty, .tmp u]) {P : Program} (tmps : Array Value) (w : World) (g : Nat) (t : TypeId) (cs : Array Value) (fr : Nat × Nat) (fs : Array Field)
    (hp : tmps.getD p undef = .pointer (some ⟨g, 0, none⟩)) (hg : w.heap[g]? = some (.cells cs t fr))
    (hu : P.underlying ty = some (.struct fs)) (hi : (P.info? ty).map (·.size) = some cs.size) (v : Value) (hv : tmps.getD u undef = v) :
    (results fn tmps).run P w = .ok (.tuple #[.agg cs, v]) w := by
  rw [results_cell_tmp h, hp, hv]
  simp [asAddr, run_loadVar_row w g t ty cs fr (.struct fs) hg hu rfl hi]
structure Fit (P : Pg) (S : St) : Prop where
  pc : S.pc < P.code.length
  gl : P.goals.length = P.code.length
  ctx : S.ctx.length ≤ 1048576
  sent : S.sent.length ≤ 1048576
/-- the next step, instructions done by D -/
def nextL (P : Pg) (D : Ins → St → Int × St) (S : St) : Int × St := match P.code[S.pc]? with
  | some i => D i S
  | none => (89, S)
def runL (P : Pg) (D : Ins → St → Int × St) : Nat → St → Int × St
  | 0, S => if S.done = true then (0, S) else (88, S)
  | n + 1, S => if S.done = true then (0, S) else if (nextL P D S).1 = 0 then runL P D n (nextL P D S).2 else nextL P D S
/-- what is asked of D for a program -/
structure Able (P : Pg) (D : Ins → St → Int × St) : Prop where
  does : ∀ i ∈ P.code, Does P i (D i)
  cf : ∀ i ∈ P.code, ∀ a W, (callFunc (doF i.op) a).run Tryz.prog W = .ok (.enter (doF i.op) a) W
  fit : ∀ i ∈ P.code, ∀ S, Fit P S → Fit P (D i S).2
theorem runL_done {P : Pg} {D : Ins → St → Int × St} {S : St} (h : S.done = true) (n : Nat) : runL P D n S = (0, S) := by
  cases n <;> simp [runL, h]
theorem step_u {w : World} {base g : Nat} {P : Pg} {S : St} (D : Ins → St → Int × St) (hA : Able P D) (hM : MAt w base g P S) (hf : Fit P S) (hd : S.done = false) :
    Calls Tryz.prog 11 #[.pointer (some ⟨g, 0, none⟩)] w fun e w' => Stepped base g P (nextL P D S) w e w' ∧ Fit P (nextL P D S).2 := by
  obtain ⟨i, hi⟩ : ∃ i, P.code[S.pc]? = some i := ⟨P.code[S.pc]'hf.pc, List.getElem?_eq_getElem _⟩
  have hm : i ∈ P.code := by
    rw [List.getElem?_eq_some_iff] at hi
    obtain ⟨h1, rfl⟩ := hi
    exact List.getElem_mem h1
  have e : nextL P D S = D i S := by unfold nextL; rw [hi]
  rw [e]
  obtain ⟨vc, vk, vg, vn, h⟩ := hM
  have h1 := hA.does i hm
  have h2 := hA.cf i hm
  have h3 := hA.fit i hm S hf
  obtain ⟨op, nar, reg, size, dst, src, off, imm⟩ := i
  exact (step_v h hd op nar reg size dst src off imm hi (D ⟨op, nar, reg, size, dst, src, off, imm⟩) h1 h2).mono fun e w' hs => ⟨hs, h3⟩
def zeroOut : Array Value := #[.int .i64 0, .slice none 0 0, .slice none 0 0, .slice none 0 0]
/-- what Run leaves -/
def Ran (base g : Nat) (P : Pg) (r : Int × St) (w : World) (e : Ending) (w' : World) : Prop :=
  ∃ v, e = .returned (.tuple #[v, .int .i64 r.1]) ∧ MAt w' base g P r.2 ∧ Fit P r.2 ∧ (r.1 = 0 → OutAt w' base r.2 v) ∧ (r.1 ≠ 0 → v = .agg zeroOut) ∧ Below base w w' ∧ KeepT w w'

theorem MAt.far {w w' : World} {base g b : Nat} {P : Pg} {S : St} {t : TypeId} {cs : Array Value} (h : MAt w base g P S) (hb : Blk w b t cs) (ht : Touch b w w') (h1 : t ≠ 72) (h2 : t ≠ 5) (h3 : t ≠ 3) (h4 : t ≠ 57) : MAt w' base g P S := by
  obtain ⟨vc, vk, vg, vn, h⟩ := h
  exact ⟨vc, vk, vg, vn, h.far ht (fun e => by subst e; exact Blk.ne_ hb h.fb h1 rfl) (own_blk_ne h.ctx hb (Ne.symm h2)) (own_blk_ne h.code hb (Ne.symm h4)) (own_blk_ne h.goals hb (Ne.symm h3)) (own_blk_ne h.sent hb (Ne.symm h3))⟩
theorem MAt.up {w w' : World} {base g : Nat} {P : Pg} {S : St} (h : MAt w base g P S) (hb : Below w.heap.size w w') : MAt w' base g P S := by
  obtain ⟨vc, vk, vg, vn, h⟩ := h
  exact ⟨vc, vk, vg, vn, h.up hb⟩
theorem MAt.lt {w : World} {base g : Nat} {P : Pg} {S : St} (h : MAt w base g P S) : base ≤ g ∧ g < w.heap.size := by
  obtain ⟨vc, vk, vg, vn, h⟩ := h
  exact ⟨h.lo, h.fb.lt⟩
theorem KeepT.touch_new {w w' w'' : World} {b : Nat} (h : KeepT w w') (ht : Touch b w' w'') (hb : w.heap.size ≤ b) : KeepT w w'' := fun k t cs hk h1 h2 h3 =>
  (h k t cs hk h1 h2 h3).touch ht (by have := hk.lt; omega)
theorem OutAt.touch {w w' : World} {base b : Nat} {S : St} {v : Value} {t : TypeId} {cs : Array Value} (h : OutAt w base S v) (hb : Blk w b t cs) (ht : Touch b w w') (h2 : t ≠ 5) (h3 : t ≠ 3) : OutAt w' base S v := by
  obtain ⟨vc, vn, e, h4, h5⟩ := h
  exact ⟨vc, vn, e, owns_touch h4 ht (own_blk_ne h4 hb (Ne.symm h2)), owns_touch h5 ht (own_blk_ne h5 hb (Ne.symm h3))⟩
theorem OutAt.mono {w : World} {base b' : Nat} {S : St} {v : Value} (h : OutAt w base S v) (hb : b' ≤ base) : OutAt w b' S v := by
  obtain ⟨vc, vn, e, h4, h5⟩ := h
  exact ⟨vc, vn, e, own_mono h4 hb, own_mono h5 hb⟩
/-- a scope that begins with its one label -/
theorem wp_scope_label {P : Program} {a : Act} {w : World} {Q : Exit → Act → World → Prop} {rest : Code} (l : Nat) (J : Act → World → Prop) (μ : Act → World → Nat) (hJ : J a w)
    (pass : ∀ a w, J a w → rest.wp P (Exit.jump l (fun a' w' => J a' w' ∧ μ a' w' < μ a w) Q) a w) : (Code.scope ((Code.label l).seq rest)).wp P Q a w := by
  have hf : findLabel ((Code.label l).seq rest) l = some (Code.skip.seq rest) := by simp [findLabel]
  refine wp_scope_jumps l J μ hf ?_ ?_
  · refine wp_seq (wp_label ?_)
    exact wp_mono (pass a w hJ) fun e a' w' h => by
      cases e <;> first | exact h | (obtain ⟨h1, h2, _⟩ := h; exact ⟨h1, h2⟩)
  · intro a' w' h
    exact wp_seq (wp_skip (pass a' w' h))
/-- Run's frame at its label -/
def RunJ (w : World) (base g : Nat) (P : Pg) (D : Ins → St → Int × St) (r : Int × St) (a' : Act) (w' : World) : Prop :=
  ∃ (n : Nat) (S : St) (u6 u7 u8 u9 u10 u11 u12 u13 u14 u15 u16 u17 u18 u19 u20 u21 u22 u23 : Value),
    a' = { tmps := #[.pointer (some ⟨g, 0, none⟩), .int .i64 n, undef, undef, .pointer (some ⟨w.heap.size, 0, none⟩), .int .i64 0, u6, u7, u8, u9, u10, u11, u12, u13, u14, u15, u16, u17, u18, u19, u20, u21, u22, u23], defers := [] } ∧
    MAt w' base g P S ∧ Fit P S ∧ runL P D n S = r ∧ Blk w' w.heap.size 39 zeroOut ∧ Below base w w' ∧ KeepT w w' ∧ n ≤ 4611686018427387904
def fuelOf (a : Act) : Nat := match a.tmps.getD 1 undef with
  | .int _ q => q.toNat
  | _ => 0
set_option maxHeartbeats 8000000 in
theorem run_v {w : World} {base g : Nat} {P : Pg} {S : St} (D : Ins → St → Int × St) (hA : Able P D) (hM : MAt w base g P S) (hf : Fit P S) (fuel : Nat) (hfu : fuel ≤ 4611686018427387904) :
    Calls Tryz.prog 9 #[.pointer (some ⟨g, 0, none⟩), .int .i64 fuel] w (Ran base g P (runL P D fuel S) w) := by
  obtain ⟨r, hr⟩ : ∃ r, runL P D fuel S = r := ⟨_, rfl⟩
  have HA := Lib.hid hA
  have hbw : base ≤ w.heap.size := by
    obtain ⟨_, _, _, _, h⟩ := hM
    have := h.fb.lt
    have := h.lo
    omega
  rw [hr]
  have HM1 := Lib.hid (show MAt (w.alloc (.cells zeroOut 39)) base g P S by obtain ⟨_, _, _, _, h⟩ := hM; exact ⟨_, _, _, _, h.alloc _⟩)
  have HO1 := Lib.hid (Blk.new w 39 zeroOut)
  have HB1 := Lib.hid ((box1 w (.cells zeroOut 39)).mono hbw)
  have HK1 := Lib.hid (KeepT.below (box1 w (.cells zeroOut 39)))
  clear hA hM
  go_enter Tryz.func9, Tryz.ntmps9
  go_wp2_with fail
  refine wp_scope_label 0 (RunJ w base g P D r) (fun a _ => fuelOf a) ?_ ?_
  · exact ⟨fuel, S, _, _, _, _, _, _, _, _, _, _, _, _, _, _, _, _, _, _, rfl, HM1.out, hf, hr, HO1.out, HB1.out, HK1.out, hfu⟩
  · clear HM1 HO1 HB1 HK1 hr hf hfu
    rintro a' w' ⟨n, S', u6, u7, u8, u9, u10, u11, u12, u13, u14, u15, u16, u17, u18, u19, u20, u21, u22, u23, rfl, hM, hf, hr, hO, hB, hK, hn⟩
    obtain ⟨⟨b0, b1, b2, b3⟩, f0, f1, f2, f3⟩ := hO.four
    have hdn : w'.cell? ⟨g, 469, none⟩ = some (.bool S'.done) := by obtain ⟨_, _, _, _, h⟩ := hM; exact h.done
    cases tD : S'.done
    · rw [tD] at hdn
      rcases n with _ | n
      · have hE : r = (88, S') := by rw [← hr]; simp [runL, tD]
        subst hE
        have hO2 := hO.set4 (.int .i64 0) (.slice none 0 0) (.slice none 0 0) (.slice none 0 0)
        have hT := Touch.set4 (g := w.heap.size) w' 0 1 2 3 (.int .i64 0) (.slice none 0 0) (.slice none 0 0) (.slice none 0 0)
        go_wp2_with fail
        simp only [Exit.jump]
        exact bodyPost_ret (results_cell_tmp_row Tryz.results9 _ _ w.heap.size 39 zeroOut (0, 0) _ rfl hO2 Tryz.underlying39 (by kernel_rfl) _ rfl) rfl ⟨_, rfl, hM.far hO hT (by decide) (by decide) (by decide) (by decide), hf, fun h => absurd (show (88 : Int) = 0 from h) (by decide), fun _ => rfl, hB.trans (hT.below hbw (by have := hM.lt; omega)), hK.touch_new hT (Nat.le_refl _)⟩
      · have hn1 : ¬ ((n + 1 : Nat) : Int) < 1 := by omega
        have hst := Lib.hid (step_u D HA.out hM hf tD)
        have HO := Lib.hid hO
        have HB := Lib.hid hB
        have HK := Lib.hid hK
        have HR := Lib.hid hr
        clear hO hB hK hM hf hr b0 b1 b2 b3 f0 f1 f2 f3
        go_wp2_with fail
        go_at_call 11
        refine hst.out.mono ?_
        rintro e w2 ⟨⟨rfl, hM2, hB2, hK2⟩, hf2⟩
        have hO2 := hK2 _ _ _ HO.out (by decide) (by decide) (by decide)
        have HR2 := Lib.hid HR.out
        rw [show runL P D (n + 1) S' = if S'.done = true then (0, S') else if (nextL P D S').1 = 0 then runL P D n (nextL P D S').2 else nextL P D S' from rfl, tD, if_neg Bool.false_ne_true] at HR2
        clear hst HR
        generalize nextL P D S' = q at *
        obtain ⟨qe, qS⟩ := q
        cases tE : (qe == 0)
        · have hE : r = (qe, qS) := by rw [← HR2.out, if_neg (ne_of_beq_false tE)]
          have tE' : (qe != 0) = true := by simp [bne, tE]
          have hqe := ne_of_beq_false tE
          subst hE
          obtain ⟨⟨b0, b1, b2, b3⟩, f0, f1, f2, f3⟩ := hO2.four
          have HO3 := Lib.hid (hO2.set4 (.int .i64 0) (.slice none 0 0) (.slice none 0 0) (.slice none 0 0))
          have HT := Lib.hid (Touch.set4 (g := w.heap.size) w2 0 1 2 3 (.int .i64 0) (.slice none 0 0) (.slice none 0 0) (.slice none 0 0))
          have HO2 := Lib.hid hO2
          have HQ := Lib.hid hqe
          have HM2 := Lib.hid hM2
          clear hO2 HR2 hqe hM2
          go_wp2_with fail
          simp only [Exit.jump]
          exact bodyPost_ret (results_cell_tmp_row Tryz.results9 _ _ w.heap.size 39 zeroOut (0, 0) _ rfl HO3.out Tryz.underlying39 (by kernel_rfl) _ rfl) rfl ⟨_, rfl, HM2.out.far HO2.out HT.out (by decide) (by decide) (by decide) (by decide), hf2, fun h => absurd h HQ.out, fun _ => rfl, (HB.out.trans hB2).trans (HT.out.below hbw (by have := HM2.out.lt; omega)), (HK.out.trans hK2).touch_new HT.out (Nat.le_refl _)⟩
        · obtain rfl : qe = 0 := eq_of_beq tE
          have hr2 : runL P D n qS = r := by rw [← HR2.out]; rfl
          have hfu : n ≤ 4611686018427387904 := by omega
          have HM2 := Lib.hid hM2
          have HO2 := Lib.hid hO2
          clear HR2 hM2 hO2
          go_wp2_with fail
          go_step3
          refine ⟨rfl, ⟨n, qS, _, _, _, _, _, _, _, _, _, _, _, _, _, _, _, _, _, _, rfl, HM2.out, hf2, hr2, HO2.out, HB.out.trans hB2, HK.out.trans hK2, hfu⟩, ?_⟩
          show ((n : Int)).toNat < (((n + 1 : Nat) : Int)).toNat
          omega
    · have hE : r = (0, S') := by rw [← hr]; exact runL_done tD n
      subst hE
      rw [tD] at hdn
      have hout := Lib.hid (fun vc vk vg vn (h : Mem w' base g P S' vc vk vg vn) => output_v h hf.ctx hf.sent)
      have HM := Lib.hid hM
      have HO := Lib.hid hO
      have HK := Lib.hid hK
      have HB := Lib.hid hB
      clear hO hM hr hK hB
      clear b0 b1 b2 b3 f0 f1 f2 f3
      go_wp2_with fail
      go_at_call 29
      have hCM := HM.out
      obtain ⟨vc, vk, vg, vn, hmm⟩ := hCM
      refine (hout.out vc vk vg vn hmm).mono ?_
      rintro e w2 ⟨v, rfl, hOut, hB2⟩
      obtain ⟨va, vb, rfl, ho1, ho2⟩ := hOut
      obtain ⟨A1, n1, rfl⟩ := owns_slice ho1
      obtain ⟨A2, n2, rfl⟩ := owns_slice ho2
      have hO2 := HO.out.up hB2
      obtain ⟨⟨b0, b1, b2, b3⟩, f0, f1, f2, f3⟩ := hO2.four
      have HO3 := Lib.hid (hO2.set4 (.int .i64 (S'.regs 0).x) (.slice A1 S'.ctx.length n1) (.slice none 0 0) (.slice A2 S'.sent.length n2))
      have HT := Lib.hid (Touch.set4 (g := w.heap.size) w2 0 1 2 3 (.int .i64 (S'.regs 0).x) (.slice A1 S'.ctx.length n1) (.slice none 0 0) (.slice A2 S'.sent.length n2))
      have HO2 := Lib.hid hO2
      have HW1 := Lib.hid ho1
      have HW2 := Lib.hid ho2
      have HB2 := Lib.hid hB2
      clear hO2 ho1 ho2 hmm hout hB2
      go_wp2_with fail
      simp only [Exit.jump]
      have hbw' : base ≤ w'.heap.size := by have := HM.out.lt; omega
      exact bodyPost_ret (results_cell_tmp_row Tryz.results9 _ _ w.heap.size 39 #[.int .i64 (S'.regs 0).x, .slice A1 S'.ctx.length n1, .slice none 0 0, .slice A2 S'.sent.length n2] (0, 0) _ rfl HO3.out Tryz.underlying39 (by kernel_rfl) _ rfl) rfl ⟨_, rfl, (HM.out.up HB2.out).far HO2.out HT.out (by decide) (by decide) (by decide) (by decide), hf, fun _ => ((OutAt.mk ⟨_, _, rfl, HW1.out, HW2.out⟩ : OutAt w2 w'.heap.size S' _).mono hbw').touch HO2.out HT.out (by decide) (by decide), fun h => absurd rfl h, (HB.out.trans (HB2.out.mono hbw')).trans (HT.out.below hbw (by have := HM.out.lt; have := HB2.out.size; omega)), (HK.out.trans (KeepT.below HB2.out)).touch_new HT.out (Nat.le_refl _)⟩
end Go.Proofs.YtpigkppnelnhiaaGreat
