/- Package pack: containers held against each other. -/
import Derived.Test.YtkfcfoidaalnlaaPkT
namespace Go.Proofs.Ytkfcfoidaalnlaa.Pak
open Go.ChangeShapes Go.WideShapes Go.ChangeAt Go.RowKit
set_option linter.unusedVariables false
set_option linter.unusedSimpArgs false
set_option maxRecDepth 100000
section
variable {P : Program} {ops : Array Oper} {w : World}
theorem wpList_neq_arr {rest : List Oper} {o : Oper} {a : Act} {Q : Exit → Act → World → Prop} (hgd : Region.wanted o (yielded ops a.tmps) = true) (t rt : TypeId) (x y : Operand) (ho : o.op = .binOp .neq t x y rt) (xs ys : Array Value) (r : Bool) (hx : a.eval x = .agg xs) (hy : a.eval y = .agg ys)
    (hm : P.eqGuardType P.depth t = false) (hr : (Op.equalIn 10000 t (.agg xs) (.agg ys)).run P w = .ok r w) (h : wpList P ops Q rest (a.put o.dst (.bool (!r))) w) : wpList P ops Q (o :: rest) a w :=
  wpList_step fun K hK => by
    rw [if_pos hgd]
    unfold Oper.wp execOp
    simp only [ho, hx, hy, Sem.run_bind, run_eqGuard_agg w .neq t x y xs ys hm, Result.andThen_ok, run_neq_struct, hr, Sem.run_pure]
    exact hK _ _ h
end
theorem eq_tab (x y : Int × Int) (w : World) : (Op.equalIn 10000 60 (.agg (arr 2 (tabF x))) (.agg (arr 2 (tabF y)))).run Try.prog w = .ok (decide (x = y)) w := by
  have u3 := Try.underlying3
  have hS : Try.prog.underlying 60 = some (.struct (Try.prog.fieldsOf 60)) := by kernel_rfl
  obtain ⟨k, t⟩ := x
  obtain ⟨k', t'⟩ := y
  rw [show arr 2 (tabF (k, t)) = #[.int .i64 k, .int .i64 t] from rfl, show arr 2 (tabF (k', t')) = #[.int .i64 k', .int .i64 t'] from rfl]
  by_cases h : (k, t) = (k', t')
  · rw [decide_eq_true h]
    injection h with h1 h2
    subst h1 h2
    rw [show (10000 : Nat) = 9999 + 1 from rfl, run_equalIn_struct w 9999 60 _ _ hS (by kernel_rfl)]
    simp only [Program.fieldsOf, Try.underlying60]
    go_simp
  · rw [decide_eq_false h]
    rw [show (10000 : Nat) = 9999 + 1 from rfl, run_equalIn_struct w 9999 60 _ _ hS (by kernel_rfl)]
    simp only [Program.fieldsOf, Try.underlying60]
    go_simp
    intro h0 h1
    exact h (by rw [h0, h1])
theorem guardTab : Try.prog.eqGuardType Try.prog.depth 60 = false := by kernel_rfl
theorem take_diff {α : Type} {L M : List α} {j : Nat} {x y : α} (hx : L[j]? = some x) (hy : M[j]? = some y) (h : x ≠ y) : L ≠ M := fun e => by
  rw [e, hy] at hx
  injection hx with hx
  exact h hx.symm
theorem take_more {α : Type} {L M : List α} {j : Nat} {x y : α} (hx : L[j]? = some x) (hy : M[j]? = some y) (h : x = y) (ht : L.take j = M.take j) : L.take (j + 1) = M.take (j + 1) := by
  rw [List.take_add_one, List.take_add_one, hx, hy, ht, h]
set_option maxHeartbeats 4000000 in
theorem sameTables_any (w : World) (A : Option Addr) (n c : Nat) (A' : Option Addr) (n' c' : Nat) (L M : List (Int × Int)) (hA : Tb w A n c L) (hA' : Tb w A' n' c' M) (hn : n ≤ 1152921504606846976) (hn' : n' ≤ 1152921504606846976) :
    Calls Try.prog 29 #[.slice A n c, .slice A' n' c'] w (RetB w (.bool (decide (L = M)))) := by
  have HL := hA.len
  have HM := hA'.len
  have HA := Lib.hid hA
  have HA' := Lib.hid hA'
  clear hA hA'
  go_enter Try.func29, Try.ntmps29
  by_cases hnn : n = n'
  · subst hnn
    have tn : ((n : Int) != n) = false := by simp
    go_wp2_with fail
    go_loopw [5, 11, 12, 13, 14, 15, 16, 17, 18, 19, 20, 21, 22, 23, 24, 25] (fun a5 _ _ _ _ _ _ _ _ _ _ _ _ _ _ _ wr => ∃ (j : Nat), a5 = .int .i64 j ∧ j ≤ n ∧ Hid (L.take j = M.take j) ∧ Below w.heap.size w wr) (fun a5 _ _ _ _ _ _ _ _ _ _ _ _ _ _ _ _ => (n - intOf a5).toNat)
    case atStart => exact ⟨0, rfl, Nat.zero_le _, Lib.hid rfl, Below.refl _ _⟩
    case round =>
      obtain ⟨j, rfl, hj, HTK, hB⟩ := hrel
      have HB := Lib.hid hB
      clear hB
      by_cases hlt : j < n
      · have hlt' : (j : Int) < n := by omega
        obtain ⟨x, hx, -⟩ := drop_cons (l := L) (j := j) (by have := HL.out; omega)
        obtain ⟨y, hy, -⟩ := drop_cons (l := M) (j := j) (by have := HM.out; omega)
        obtain ⟨b, off, rfl, hbl, hcx⟩ := (HA.out.up HB.out).row (by have := HL.out; omega)
        obtain ⟨b', off', rfl, hbl', hcy⟩ := (HA'.out.up HB.out).row (by have := HM.out; omega)
        obtain ⟨F, hF⟩ : ∃ F, F = tabF x := ⟨_, rfl⟩
        obtain ⟨F', hF'⟩ : ∃ F, F = tabF y := ⟨_, rfl⟩
        have h1 := hcx j x hx
        have h2 := hcy j y hy
        have HY := Lib.hid hx
        have HZ := Lib.hid hy
        clear hcx hcy hx hy
        go_upto_region 6 with fail
        refine wp_region_tail 8 (by kernel_rfl) (by kernel_rfl) fun W hW => ?_
        simp only [List.take_succ_cons, List.take_zero, List.drop_succ_cons, List.drop_zero]
        rw [← hF] at h1
        rw [← hF'] at h2
        have HX := Lib.hid (show ∀ k, k < 2 → W.cell? ⟨b, off + j * 2 + k, none⟩ = some (F k) by rw [hW]; exact h1)
        have HX' := Lib.hid (show ∀ k, k < 2 → W.cell? ⟨b', off' + j * 2 + k, none⟩ = some (F' k) by rw [hW]; exact h2)
        have HBW := Lib.hid (show Below w.heap.size w W by rw [hW]; exact below_drewN HB.out 1)
        have HEQ := Lib.hid (show (Op.equalIn 10000 60 (.agg (arr 2 F)) (.agg (arr 2 F'))).run Try.prog W = .ok (decide (x = y)) W by rw [hF, hF']; exact eq_tab x y W)
        clear hW h1 h2 hF hF' HB
        iterate 3 still_step
        refine wpStill_load_cells rfl 60 _ rfl b (off + j * 2) rfl 2 F _ HX.out Try.underlying60 rfl sizeTab ?_
        iterate 3 still_step
        refine wpStill_load_cells rfl 60 _ rfl b' (off' + j * 2) rfl 2 F' _ HX'.out Try.underlying60 rfl sizeTab ?_
        refine wpStill_nil ?_
        obtain ⟨r, hr⟩ : ∃ r, r = decide (x = y) := ⟨_, rfl⟩
        rw [← hr] at HEQ
        refine wpList_neq_arr rfl 60 _ _ _ rfl (arr 2 F) (arr 2 F') r rfl rfl guardTab HEQ.out ?_
        cases r
        · have HE := Lib.hid (decide_eq_false (take_diff HY.out HZ.out (of_decide_eq_false hr.symm)))
          clear hr
          go_wp2_with fail
          go_ret
          exact ⟨ret_bool HE.out.symm, HBW.out⟩
        · have HD := Lib.hid (take_more HY.out HZ.out (of_decide_eq_true hr.symm) HTK.out)
          clear hr
          go_wp2_with fail
          go_roundw
          case rel => exact ⟨j + 1, by go_num, by omega, HD, HBW.out⟩
          case measure => simp [intOf]; omega
      · obtain rfl : j = n := by omega
        have HE := Lib.hid (show L = M by
          have h5 := HTK.out
          rwa [List.take_of_length_le (by rw [HL.out]; exact Nat.le_refl _), List.take_of_length_le (by rw [HM.out]; exact Nat.le_refl _)] at h5)
        clear hlt HTK
        go_wp2_with fail
        go_ret
        exact ⟨ret_bool (decide_eq_true HE.out).symm, HB.out⟩
  · have tn : ((n : Int) != n') = true := by rw [bne_iff_ne]; omega
    have HE := Lib.hid (show ¬ L = M from fun e => hnn (by rw [← HL.out, ← HM.out, e]))
    clear hnn
    go_wp2_with fail
    go_ret
    exact ⟨ret_bool (decide_eq_false HE.out).symm, Below.refl _ _⟩
def samePk (a b : Pk) : Bool := decide (a.lo = b.lo) && (decide (a.hi = b.hi) && (decide (a.data = b.data) && (decide (a.tabs = b.tabs) && decide (a.code = b.code))))
theorem samePk_iff (a b : Pk) : samePk a b = true ↔ a = b := by
  obtain ⟨a1, a2, a3, a4, a5⟩ := a
  obtain ⟨b1, b2, b3, b4, b5⟩ := b
  unfold samePk
  simp only [Bool.and_eq_true, decide_eq_true_eq, Pk.mk.injEq]
set_option maxHeartbeats 8000000 in
theorem samePack_any (w : World) (a b : Pk) (vd vt vc vd' vt' vc' : Value) (ha : PkAt w vd vt vc a) (hb : PkAt w vd' vt' vc' b) (hda : Bytes a.data) (hca : Bytes a.code) (hdb : Bytes b.data) (hcb : Bytes b.code) (hta : a.tabs.length ≤ 1152921504606846976) (htb : b.tabs.length ≤ 1152921504606846976) :
    Calls Try.prog 11 #[.agg (arr 5 (pkF a.lo a.hi vd vt vc)), .agg (arr 5 (pkF b.lo b.hi vd' vt' vc'))] w (RetB w (.bool (samePk a b))) := by
  obtain ⟨⟨Ad, nd, cd, rfl, hD⟩, ⟨At, nt, ct, rfl, hT⟩, Ac, nc, cc, rfl, hC⟩ := ha
  obtain ⟨⟨Bd, md, dd, rfl, kD⟩, ⟨Bt, mt, dt, rfl, kT⟩, Bc, mc, dc, rfl, kC⟩ := hb
  obtain ⟨lo, hi, data, tabs, code⟩ := a
  obtain ⟨lo', hi', data', tabs', code'⟩ := b
  simp only at hD hT hC kD kT kC hda hca hdb hcb hta htb ⊢
  have HSD := Lib.hid (fun (W : World) (hW : Below w.heap.size w W) => sameBytes_any W Ad nd cd Bd md dd data data' hD.len.out kD.len.out (hD.up hW).byt (kD.up hW).byt hda hdb)
  have HSC := Lib.hid (fun (W : World) (hW : Below w.heap.size w W) => sameBytes_any W Ac nc cc Bc mc dc code code' hC.len.out kC.len.out (hC.up hW).byt (kC.up hW).byt hca hcb)
  have HST := Lib.hid (fun (W : World) (hW : Below w.heap.size w W) => sameTables_any W At nt ct Bt mt dt tabs tabs' (hT.up hW) (kT.up hW) (by have := hT.len.out; omega) (by have := kT.len.out; omega))
  obtain ⟨X, hX⟩ : ∃ X, X = pkF lo hi (.slice Ad nd cd) (.slice At nt ct) (.slice Ac nc cc) := ⟨_, rfl⟩
  obtain ⟨Y, hY⟩ : ∃ Y, Y = pkF lo' hi' (.slice Bd md dd) (.slice Bt mt dt) (.slice Bc mc dc) := ⟨_, rfl⟩
  rw [← hX, ← hY]
  have HX := Lib.hid hX
  have HY := Lib.hid hY
  clear hX hY hD hT hC kD kT kC hda hca hdb hcb hta htb
  obtain ⟨r, hr⟩ : ∃ r, r = samePk ⟨lo, hi, data, tabs, code⟩ ⟨lo', hi', data', tabs', code'⟩ := ⟨_, rfl⟩
  rw [← hr]
  have HRV := Lib.hid (show r = (decide (lo = lo') && (decide (hi = hi') && (decide (data = data') && (decide (tabs = tabs') && decide (code = code'))))) from hr)
  clear hr
  go_enter Try.func11, Try.ntmps11
  go_upto_region 1 with (first
    | (refine wpList_box_seg rfl _ (.tmp 0) rfl 5 X rfl ?_; intro w1 h1 hB1 hs1; clear hs1)
    | (refine wpList_box_seg rfl _ (.tmp 1) rfl 5 Y rfl ?_; intro w2 h2 hB2 hs2))
  obtain ⟨ga, hga⟩ : ∃ g, g = w.heap.size := ⟨_, rfl⟩
  obtain ⟨gb, hgb⟩ : ∃ g, g = w1.heap.size := ⟨_, rfl⟩
  rw [← hga] at h1 ⊢
  rw [← hgb] at h2 ⊢
  have HB := Lib.hid (show Below w.heap.size w w2 from hB1.trans (hB2.mono hB1.size))
  have HFA := Lib.hid (h1.up hB2)
  have HFB := Lib.hid h2
  have HCA := Lib.hid (show ∀ W, Below w2.heap.size w2 W → W.cell? ⟨ga, 0, none⟩ = some (.int .i64 lo) ∧ W.cell? ⟨ga, 1, none⟩ = some (.int .i64 hi) ∧ W.cell? ⟨ga, 2, none⟩ = some (.slice Ad nd cd) ∧ W.cell? ⟨ga, 3, none⟩ = some (.slice At nt ct) ∧ W.cell? ⟨ga, 4, none⟩ = some (.slice Ac nc cc) from fun W hW => by
    have h3 := HFA.out.up hW
    rw [HX.out] at h3
    exact ⟨h3.cell 0 (by decide), h3.cell 1 (by decide), h3.cell 2 (by decide), h3.cell 3 (by decide), h3.cell 4 (by decide)⟩)
  have HCB := Lib.hid (show ∀ W, Below w2.heap.size w2 W → W.cell? ⟨gb, 0, none⟩ = some (.int .i64 lo') ∧ W.cell? ⟨gb, 1, none⟩ = some (.int .i64 hi') ∧ W.cell? ⟨gb, 2, none⟩ = some (.slice Bd md dd) ∧ W.cell? ⟨gb, 3, none⟩ = some (.slice Bt mt dt) ∧ W.cell? ⟨gb, 4, none⟩ = some (.slice Bc mc dc) from fun W hW => by
    have h3 := HFB.out.up hW
    rw [HY.out] at h3
    exact ⟨h3.cell 0 (by decide), h3.cell 1 (by decide), h3.cell 2 (by decide), h3.cell 3 (by decide), h3.cell 4 (by decide)⟩)
  obtain ⟨x0, x1, x2, x3, x4⟩ := HCA.out w2 (Below.refl _ _)
  obtain ⟨y0, y1, y2, y3, y4⟩ := HCB.out w2 (Below.refl _ _)
  clear h1 hB1 h2 hB2 hs2 hga hgb
  have HSD2 := Lib.hid (HSD.out w2 HB.out)
  have HST2 := Lib.hid (HST.out w2 HB.out)
  clear HSD HST
  by_cases e0 : lo = lo'
  case neg =>
    have t0 : (lo == lo') = false := by rw [beq_eq_false_iff_ne]; exact e0
    rw [decide_eq_false e0] at HRV
    clear e0
    go_wp2_with fail
    go_ret
    exact ⟨ret_bool (by rw [HRV.out]; rfl), HB.out⟩
  have t0 : (lo == lo') = true := by rw [beq_iff_eq]; exact e0
  rw [decide_eq_true e0] at HRV
  clear e0
  by_cases e1 : hi = hi'
  case neg =>
    have t1 : (hi == hi') = false := by rw [beq_eq_false_iff_ne]; exact e1
    rw [decide_eq_false e1] at HRV
    clear e1
    go_wp2_with fail
    go_ret
    exact ⟨ret_bool (by rw [HRV.out]; rfl), HB.out⟩
  have t1 : (hi == hi') = true := by rw [beq_iff_eq]; exact e1
  rw [decide_eq_true e1] at HRV
  clear e1
  cases e2 : decide (data = data')
  case false =>
    rw [e2] at HSD2 HRV
    clear e2
    go_wp2_with (go_at_call 14; refine HSD2.out.mono ?_; rintro e u ⟨rfl, rfl⟩)
    go_ret
    exact ⟨ret_bool (by rw [HRV.out]; rfl), HB.out⟩
  rw [e2] at HSD2 HRV
  clear e2
  cases e3 : decide (tabs = tabs')
  case false =>
    rw [e3] at HST2 HRV
    clear e3
    go_wp2_with (first
      | (go_at_call 14; refine HSD2.out.mono ?_; rintro e u ⟨rfl, rfl⟩)
      | (go_at_call 29; refine HST2.out.mono ?_; rintro e w3 ⟨rfl, hB3⟩))
    go_ret
    exact ⟨ret_bool (by rw [HRV.out]; rfl), HB.out.trans (hB3.mono HB.out.size)⟩
  rw [e3] at HST2 HRV
  clear e3
  go_wp2_with (first
    | (go_at_call 14; refine HSD2.out.mono ?_; rintro e u ⟨rfl, rfl⟩)
    | (go_at_call 29; refine HST2.out.mono ?_; rintro e w3 ⟨rfl, hB3⟩; obtain ⟨z0, z1, z2, z3, z4⟩ := HCA.out w3 hB3; obtain ⟨s0, s1, s2, s3, s4⟩ := HCB.out w3 hB3; have HB3 := Lib.hid hB3)
    | (go_at_call 14; refine (HSC.out w3 (HB.out.trans (HB3.out.mono HB.out.size))).mono ?_; rintro e u ⟨rfl, rfl⟩))
  go_ret
  exact ⟨ret_bool (by rw [HRV.out]; rfl), HB.out.trans (HB3.out.mono HB.out.size)⟩
theorem num_errno (e : Int) (w : World) : Calls Try.prog 13 #[.int .i64 e] w fun r w' => r = .returned (.int .i64 e) ∧ w = w' := by
  go_enter Try.func13, Try.ntmps13
  go_wp2_with fail
  go_ret
  exact ⟨rfl, rfl⟩
end Go.Proofs.Ytkfcfoidaalnlaa.Pak
