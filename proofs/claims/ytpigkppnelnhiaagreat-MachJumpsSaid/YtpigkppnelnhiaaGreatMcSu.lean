/- Package mach: State, its walk. Written by gen_mcst.py. -/
import Derived.Test.YtpigkppnelnhiaaGreatMcSt
namespace Go.Proofs.YtpigkppnelnhiaaGreat
open Go.ChangeShapes Go.WideShapes Go.ChangeAt Go.RowKit
open Cod Bits
set_option linter.unusedVariables false
set_option linter.unusedSimpArgs false
set_option maxRecDepth 100000
set_option maxHeartbeats 4000000 in
theorem state_v {w : World} {base g : Nat} {P : Pg} {S : St} {vc vk vg vn : Value} (h : Mem w base g P S vc vk vg vn) (hcl : S.ctx.length ≤ 1048576) (hsl : S.sent.length ≤ 1048576) :
    Calls Tryz.prog 10 #[.pointer (some ⟨g, 0, none⟩)] w (Told S w) := by
  obtain ⟨A, cA, rfl, hA⟩ := h.ctx.form
  obtain ⟨B, cB, rfl, hBt⟩ := h.sent.form
  obtain ⟨Ak, nk, ck, rfl⟩ : ∃ A n c, vk = .slice A n c := by
    obtain ⟨A, c, e⟩ := owns_slice h.code
    exact ⟨A, _, c, e⟩
  obtain ⟨Ag, ng, cg, rfl⟩ : ∃ A n c, vg = .slice A n c := by
    obtain ⟨A, c, e⟩ := owns_slice h.goals
    exact ⟨A, _, c, e⟩
  have hrA := own_ref h.ctx
  have hrB := own_ref h.sent
  clear hA hBt
  have HM := Lib.hid h
  have HCB := Lib.hid (fun w' (h : Mem w' base g P S (.slice A S.ctx.length cA) (.slice Ak nk ck) (.slice Ag ng cg) (.slice B S.sent.length cB)) => cloneB_v w' A _ cA S.ctx rfl (by omega) (ownB_at h.ctx) hrA)
  have HCI := Lib.hid (fun w' (h : Mem w' base g P S (.slice A S.ctx.length cA) (.slice Ak nk ck) (.slice Ag ng cg) (.slice B S.sent.length cB)) => cloneI_v w' B _ cB S.sent rfl (by omega) (ownI_at h.sent) hrB)
  have hbs := Lib.hid (fun r s A n c B m d pc steps done => built_state r s A n c B m d pc steps done)
  clear h hrA hrB hcl hsl
  generalize S.ctx.length = nA at *
  generalize S.sent.length = nB at *
  go_enter Tryz.func10, Tryz.ntmps10
  go_upto_region 1 with (refine wpList_alloc_seg rfl 50 rfl 466 st0 state_zero ?_; intro w1 hF1 hB1 hs1)
  have HM1 := Lib.hid ((HM.out.up hB1).drew 1)
  have HF1 := Lib.hid hF1
  have HB1 := Lib.hid (show Below w.heap.size w w1.drew from below_drewN hB1 1)
  have hsz := Lib.hid hs1
  clear HM hF1 hB1 hs1
  obtain ⟨gs, hgs⟩ : ∃ gs, gs = w.heap.size := ⟨_, rfl⟩
  rw [← hgs] at HF1 ⊢
  have HGS := Lib.hid hgs
  clear hgs
  refine wp_region_last (n := 39) (S := fun W => Mem W base g P S (.slice A nA cA) (.slice Ak nk ck) (.slice Ag ng cg) (.slice B nB cB)) (by kernel_rfl) (by kernel_rfl) (by kernel_rfl) (by kernel_rfl) rfl HM1.out (fun hHeld => ?_)
  refine wpAnyH_take (i := 0) (oi := _) (v := .pointer (some ⟨g, 0, none⟩)) rfl (by kernel_rfl) (by kernel_rfl) (by kernel_rfl) (fun _ _ _ h => h) (Or.inl ⟨by rfl, ?_⟩) (by assumption) ?_
  · intro w hSw
    go_simp
  try simp only [Act.put, List.setIfInBounds_toArray, List.set_cons_zero, List.set_cons_succ]
  refine wpAnyH_take (i := 1) (oi := _) (v := .pointer (some ⟨g, 0, none⟩)) rfl (by kernel_rfl) (by kernel_rfl) (by kernel_rfl) (fun _ _ _ h => h) (Or.inl ⟨by rfl, ?_⟩) (by assumption) ?_
  · intro w hSw
    go_simp
  try simp only [Act.put, List.setIfInBounds_toArray, List.set_cons_zero, List.set_cons_succ]
  refine wpAnyH_take (i := 2) (oi := _) (v := .pointer (some ⟨g, 422, none⟩)) rfl (by kernel_rfl) (by kernel_rfl) (by kernel_rfl) (fun _ _ _ h => h) (Or.inl ⟨by rfl, ?_⟩) (by assumption) ?_
  · intro w hSw
    go_simp
  try simp only [Act.put, List.setIfInBounds_toArray, List.set_cons_zero, List.set_cons_succ]
  refine wpAnyH_take (i := 3) (oi := _) (v := .agg (arr 44 fun q => mC S (.slice A nA cA) (.slice Ak nk ck) (.slice Ag ng cg) (.slice B nB cB) (422 + q))) rfl (by kernel_rfl) (by kernel_rfl) (by kernel_rfl) (fun _ _ _ h => h) (Or.inl ⟨by rfl, ?_⟩) (by assumption) ?_
  · intro w hSw
    exact exec_load_seg 44 _ rfl g 422 rfl 72 470 44 (mC S (.slice A nA cA) (.slice Ak nk ck) (.slice Ag ng cg) (.slice B nB cB)) _ hSw.fb (by decide) Tryz.underlying44 rfl (by kernel_rfl)
  try simp only [Act.put, List.setIfInBounds_toArray, List.set_cons_zero, List.set_cons_succ]
  refine wpAnyH_take (i := 4) (oi := _) (v := .pointer (some ⟨g, 0, none⟩)) rfl (by kernel_rfl) (by kernel_rfl) (by kernel_rfl) (fun _ _ _ h => h) (Or.inl ⟨by rfl, ?_⟩) (by assumption) ?_
  · intro w hSw
    go_simp
  try simp only [Act.put, List.setIfInBounds_toArray, List.set_cons_zero, List.set_cons_succ]
  refine wpAnyH_take (i := 5) (oi := _) (v := .pointer (some ⟨g, 0, none⟩)) rfl (by kernel_rfl) (by kernel_rfl) (by kernel_rfl) (fun _ _ _ h => h) (Or.inl ⟨by rfl, ?_⟩) (by assumption) ?_
  · intro w hSw
    go_simp
  try simp only [Act.put, List.setIfInBounds_toArray, List.set_cons_zero, List.set_cons_succ]
  refine wpAnyH_take (i := 6) (oi := _) (v := .pointer (some ⟨g, 0, none⟩)) rfl (by kernel_rfl) (by kernel_rfl) (by kernel_rfl) (fun _ _ _ h => h) (Or.inl ⟨by rfl, ?_⟩) (by assumption) ?_
  · intro w hSw
    go_simp
  try simp only [Act.put, List.setIfInBounds_toArray, List.set_cons_zero, List.set_cons_succ]
  refine wpAnyH_take (i := 7) (oi := _) (v := .pointer (some ⟨g, 0, none⟩)) rfl (by kernel_rfl) (by kernel_rfl) (by kernel_rfl) (fun _ _ _ h => h) (Or.inl ⟨by rfl, ?_⟩) (by assumption) ?_
  · intro w hSw
    go_simp
  try simp only [Act.put, List.setIfInBounds_toArray, List.set_cons_zero, List.set_cons_succ]
  refine wpAnyH_take (i := 8) (oi := _) (v := .agg (arr 416 fun q => mC S (.slice A nA cA) (.slice Ak nk ck) (.slice Ag ng cg) (.slice B nB cB) (0 + q))) rfl (by kernel_rfl) (by kernel_rfl) (by kernel_rfl) (fun _ _ _ h => h) (Or.inl ⟨by rfl, ?_⟩) (by assumption) ?_
  · intro w hSw
    exact exec_load_seg 48 _ rfl g 0 rfl 72 470 416 (mC S (.slice A nA cA) (.slice Ak nk ck) (.slice Ag ng cg) (.slice B nB cB)) _ hSw.fb (by decide) Tryz.underlying48 rfl (by kernel_rfl)
  try simp only [Act.put, List.setIfInBounds_toArray, List.set_cons_zero, List.set_cons_succ]
  refine wpAnyH_take (i := 9) (oi := _) (v := .pointer (some ⟨g, 0, none⟩)) rfl (by kernel_rfl) (by kernel_rfl) (by kernel_rfl) (fun _ _ _ h => h) (Or.inl ⟨by rfl, ?_⟩) (by assumption) ?_
  · intro w hSw
    go_simp
  try simp only [Act.put, List.setIfInBounds_toArray, List.set_cons_zero, List.set_cons_succ]
  refine wpAnyH_take (i := 10) (oi := _) (v := .pointer (some ⟨g, 0, none⟩)) rfl (by kernel_rfl) (by kernel_rfl) (by kernel_rfl) (fun _ _ _ h => h) (Or.inl ⟨by rfl, ?_⟩) (by assumption) ?_
  · intro w hSw
    go_simp
  try simp only [Act.put, List.setIfInBounds_toArray, List.set_cons_zero, List.set_cons_succ]
  refine wpAnyH_take (i := 11) (oi := _) (v := .pointer (some ⟨g, 0, none⟩)) rfl (by kernel_rfl) (by kernel_rfl) (by kernel_rfl) (fun _ _ _ h => h) (Or.inl ⟨by rfl, ?_⟩) (by assumption) ?_
  · intro w hSw
    go_simp
  try simp only [Act.put, List.setIfInBounds_toArray, List.set_cons_zero, List.set_cons_succ]
  refine wpAnyH_take (i := 12) (oi := _) (v := .pointer (some ⟨g, 416, none⟩)) rfl (by kernel_rfl) (by kernel_rfl) (by kernel_rfl) (fun _ _ _ h => h) (Or.inl ⟨by rfl, ?_⟩) (by assumption) ?_
  · intro w hSw
    go_simp
  try simp only [Act.put, List.setIfInBounds_toArray, List.set_cons_zero, List.set_cons_succ]
  refine wpAnyH_take (i := 13) (oi := _) (v := .slice A nA cA) rfl (by kernel_rfl) (by kernel_rfl) (by kernel_rfl) (fun _ _ _ h => h) (Or.inl ⟨by rfl, ?_⟩) (by assumption) ?_
  · intro w hSw
    have c := hSw.cC
    go_simp
  try simp only [Act.put, List.setIfInBounds_toArray, List.set_cons_zero, List.set_cons_succ]
  refine wpAnyH_take (i := 15) (oi := _) (v := .pointer (some ⟨g, 0, none⟩)) rfl (by kernel_rfl) (by kernel_rfl) (by kernel_rfl) (fun _ _ _ h => h) (Or.inl ⟨by rfl, ?_⟩) (by assumption) ?_
  · intro w hSw
    go_simp
  try simp only [Act.put, List.setIfInBounds_toArray, List.set_cons_zero, List.set_cons_succ]
  refine wpAnyH_take (i := 16) (oi := _) (v := .pointer (some ⟨g, 0, none⟩)) rfl (by kernel_rfl) (by kernel_rfl) (by kernel_rfl) (fun _ _ _ h => h) (Or.inl ⟨by rfl, ?_⟩) (by assumption) ?_
  · intro w hSw
    go_simp
  try simp only [Act.put, List.setIfInBounds_toArray, List.set_cons_zero, List.set_cons_succ]
  refine wpAnyH_take (i := 17) (oi := _) (v := .pointer (some ⟨g, 0, none⟩)) rfl (by kernel_rfl) (by kernel_rfl) (by kernel_rfl) (fun _ _ _ h => h) (Or.inl ⟨by rfl, ?_⟩) (by assumption) ?_
  · intro w hSw
    go_simp
  try simp only [Act.put, List.setIfInBounds_toArray, List.set_cons_zero, List.set_cons_succ]
  refine wpAnyH_take (i := 18) (oi := _) (v := .pointer (some ⟨g, 418, none⟩)) rfl (by kernel_rfl) (by kernel_rfl) (by kernel_rfl) (fun _ _ _ h => h) (Or.inl ⟨by rfl, ?_⟩) (by assumption) ?_
  · intro w hSw
    go_simp
  try simp only [Act.put, List.setIfInBounds_toArray, List.set_cons_zero, List.set_cons_succ]
  refine wpAnyH_take (i := 19) (oi := _) (v := .slice none 0 0) rfl (by kernel_rfl) (by kernel_rfl) (by kernel_rfl) (fun _ _ _ h => h) (Or.inl ⟨by rfl, ?_⟩) (by assumption) ?_
  · intro w hSw
    have c := hSw.cell 418 (by decide) (v := .slice none 0 0) rfl
    go_simp
  try simp only [Act.put, List.setIfInBounds_toArray, List.set_cons_zero, List.set_cons_succ]
  refine wpAnyH_take (i := 21) (oi := _) (v := .pointer (some ⟨g, 0, none⟩)) rfl (by kernel_rfl) (by kernel_rfl) (by kernel_rfl) (fun _ _ _ h => h) (Or.inl ⟨by rfl, ?_⟩) (by assumption) ?_
  · intro w hSw
    go_simp
  try simp only [Act.put, List.setIfInBounds_toArray, List.set_cons_zero, List.set_cons_succ]
  refine wpAnyH_take (i := 22) (oi := _) (v := .pointer (some ⟨g, 0, none⟩)) rfl (by kernel_rfl) (by kernel_rfl) (by kernel_rfl) (fun _ _ _ h => h) (Or.inl ⟨by rfl, ?_⟩) (by assumption) ?_
  · intro w hSw
    go_simp
  try simp only [Act.put, List.setIfInBounds_toArray, List.set_cons_zero, List.set_cons_succ]
  refine wpAnyH_take (i := 23) (oi := _) (v := .pointer (some ⟨g, 466, none⟩)) rfl (by kernel_rfl) (by kernel_rfl) (by kernel_rfl) (fun _ _ _ h => h) (Or.inl ⟨by rfl, ?_⟩) (by assumption) ?_
  · intro w hSw
    go_simp
  try simp only [Act.put, List.setIfInBounds_toArray, List.set_cons_zero, List.set_cons_succ]
  refine wpAnyH_take (i := 24) (oi := _) (v := .slice B nB cB) rfl (by kernel_rfl) (by kernel_rfl) (by kernel_rfl) (fun _ _ _ h => h) (Or.inl ⟨by rfl, ?_⟩) (by assumption) ?_
  · intro w hSw
    have c := hSw.cN
    go_simp
  try simp only [Act.put, List.setIfInBounds_toArray, List.set_cons_zero, List.set_cons_succ]
  refine wpAnyH_take (i := 26) (oi := _) (v := .pointer (some ⟨g, 0, none⟩)) rfl (by kernel_rfl) (by kernel_rfl) (by kernel_rfl) (fun _ _ _ h => h) (Or.inl ⟨by rfl, ?_⟩) (by assumption) ?_
  · intro w hSw
    go_simp
  try simp only [Act.put, List.setIfInBounds_toArray, List.set_cons_zero, List.set_cons_succ]
  refine wpAnyH_take (i := 27) (oi := _) (v := .pointer (some ⟨g, 0, none⟩)) rfl (by kernel_rfl) (by kernel_rfl) (by kernel_rfl) (fun _ _ _ h => h) (Or.inl ⟨by rfl, ?_⟩) (by assumption) ?_
  · intro w hSw
    go_simp
  try simp only [Act.put, List.setIfInBounds_toArray, List.set_cons_zero, List.set_cons_succ]
  refine wpAnyH_take (i := 28) (oi := _) (v := .pointer (some ⟨g, 467, none⟩)) rfl (by kernel_rfl) (by kernel_rfl) (by kernel_rfl) (fun _ _ _ h => h) (Or.inl ⟨by rfl, ?_⟩) (by assumption) ?_
  · intro w hSw
    go_simp
  try simp only [Act.put, List.setIfInBounds_toArray, List.set_cons_zero, List.set_cons_succ]
  refine wpAnyH_take (i := 29) (oi := _) (v := .int .i64 S.pc) rfl (by kernel_rfl) (by kernel_rfl) (by kernel_rfl) (fun _ _ _ h => h) (Or.inl ⟨by rfl, ?_⟩) (by assumption) ?_
  · intro w hSw
    have c := hSw.pc
    go_simp
  try simp only [Act.put, List.setIfInBounds_toArray, List.set_cons_zero, List.set_cons_succ]
  refine wpAnyH_take (i := 30) (oi := _) (v := .pointer (some ⟨g, 0, none⟩)) rfl (by kernel_rfl) (by kernel_rfl) (by kernel_rfl) (fun _ _ _ h => h) (Or.inl ⟨by rfl, ?_⟩) (by assumption) ?_
  · intro w hSw
    go_simp
  try simp only [Act.put, List.setIfInBounds_toArray, List.set_cons_zero, List.set_cons_succ]
  refine wpAnyH_take (i := 31) (oi := _) (v := .pointer (some ⟨g, 0, none⟩)) rfl (by kernel_rfl) (by kernel_rfl) (by kernel_rfl) (fun _ _ _ h => h) (Or.inl ⟨by rfl, ?_⟩) (by assumption) ?_
  · intro w hSw
    go_simp
  try simp only [Act.put, List.setIfInBounds_toArray, List.set_cons_zero, List.set_cons_succ]
  refine wpAnyH_take (i := 32) (oi := _) (v := .pointer (some ⟨g, 468, none⟩)) rfl (by kernel_rfl) (by kernel_rfl) (by kernel_rfl) (fun _ _ _ h => h) (Or.inl ⟨by rfl, ?_⟩) (by assumption) ?_
  · intro w hSw
    go_simp
  try simp only [Act.put, List.setIfInBounds_toArray, List.set_cons_zero, List.set_cons_succ]
  refine wpAnyH_take (i := 33) (oi := _) (v := .int .i64 S.steps) rfl (by kernel_rfl) (by kernel_rfl) (by kernel_rfl) (fun _ _ _ h => h) (Or.inl ⟨by rfl, ?_⟩) (by assumption) ?_
  · intro w hSw
    have c := hSw.steps
    go_simp
  try simp only [Act.put, List.setIfInBounds_toArray, List.set_cons_zero, List.set_cons_succ]
  refine wpAnyH_take (i := 34) (oi := _) (v := .pointer (some ⟨g, 0, none⟩)) rfl (by kernel_rfl) (by kernel_rfl) (by kernel_rfl) (fun _ _ _ h => h) (Or.inl ⟨by rfl, ?_⟩) (by assumption) ?_
  · intro w hSw
    go_simp
  try simp only [Act.put, List.setIfInBounds_toArray, List.set_cons_zero, List.set_cons_succ]
  refine wpAnyH_take (i := 35) (oi := _) (v := .pointer (some ⟨g, 0, none⟩)) rfl (by kernel_rfl) (by kernel_rfl) (by kernel_rfl) (fun _ _ _ h => h) (Or.inl ⟨by rfl, ?_⟩) (by assumption) ?_
  · intro w hSw
    go_simp
  try simp only [Act.put, List.setIfInBounds_toArray, List.set_cons_zero, List.set_cons_succ]
  refine wpAnyH_take (i := 36) (oi := _) (v := .pointer (some ⟨g, 469, none⟩)) rfl (by kernel_rfl) (by kernel_rfl) (by kernel_rfl) (fun _ _ _ h => h) (Or.inl ⟨by rfl, ?_⟩) (by assumption) ?_
  · intro w hSw
    go_simp
  try simp only [Act.put, List.setIfInBounds_toArray, List.set_cons_zero, List.set_cons_succ]
  refine wpAnyH_take (i := 37) (oi := _) (v := .bool S.done) rfl (by kernel_rfl) (by kernel_rfl) (by kernel_rfl) (fun _ _ _ h => h) (Or.inl ⟨by rfl, ?_⟩) (by assumption) ?_
  · intro w hSw
    have c := hSw.done
    go_simp
  try simp only [Act.put, List.setIfInBounds_toArray, List.set_cons_zero, List.set_cons_succ]
  clear hHeld
  refine wpAnyH_ready (rs := [14]) (by kernel_rfl) (by simp) ?_
  refine AllReadyH.cons rfl (fun K hK => ?_) AllReadyH.nil
  go_simp
  go_at_call 30
  refine (HCB.out _ HM1.out).mono ?_
  rintro e y2 ⟨va, rfl, hva, hB2⟩
  obtain ⟨A2, c2, rfl⟩ := owns_slice hva
  have HM2 := Lib.hid (HM1.out.up hB2)
  have HF2 := Lib.hid (FB.up (w := w1.drew) HF1.out hB2)
  have HB2 := Lib.hid (HB1.out.trans (hB2.mono HB1.out.size))
  refine hK.out _ _ HM2.out (fun hHeld => ?_)
  clear hK K hHeld hva hB2
  try simp only [Act.put, List.setIfInBounds_toArray, List.set_cons_zero, List.set_cons_succ]
  have HCL := Lib.hid (fun W => clones_v W)
  refine wpAnyH_ready (rs := [20]) (by kernel_rfl) (by simp) ?_
  refine AllReadyH.cons rfl (fun K hK => ?_) AllReadyH.nil
  go_simp
  go_at_call 31
  refine (HCL.out _).mono ?_
  rintro e y9 ⟨rfl, rfl⟩
  refine hK.out _ _ HM2.out (fun hHeld => ?_)
  clear hK K hHeld
  try simp only [Act.put, List.setIfInBounds_toArray, List.set_cons_zero, List.set_cons_succ]
  refine wpAnyH_ready (rs := [25]) (by kernel_rfl) (by simp) ?_
  refine AllReadyH.cons rfl (fun K hK => ?_) AllReadyH.nil
  go_simp
  go_at_call 32
  refine (HCI.out _ HM2.out).mono ?_
  rintro e y3 ⟨vb, rfl, hvb, hB3⟩
  obtain ⟨A3, c3, rfl⟩ := owns_slice hvb
  have HM3 := Lib.hid (HM2.out.up hB3)
  have HF3 := Lib.hid (HF2.out.up hB3)
  have HB3 := Lib.hid (HB2.out.trans (hB3.mono HB2.out.size))
  refine hK.out _ _ HM3.out (fun hHeld => ?_)
  clear hK K hvb hB3
  try simp only [Act.put, List.setIfInBounds_toArray, List.set_cons_zero, List.set_cons_succ]
  obtain ⟨F, hF⟩ : ∃ F, F = stF (fun q => mC S (.slice A nA cA) (.slice Ak nk ck) (.slice Ag ng cg) (.slice B nB cB) (422 + q)) (fun q => mC S (.slice A nA cA) (.slice Ak nk ck) (.slice Ag ng cg) (.slice B nB cB) (0 + q)) (.slice A2 S.ctx.length c2) (.slice none 0 0) (.slice A3 S.sent.length c3) (.int .i64 S.pc) (.int .i64 S.steps) (.bool S.done) := ⟨_, rfl⟩
  have HF := Lib.hid hF
  refine wpAnyH_take (i := 38) (oi := { dst := some 41, op := Op.build 50 #[(0, Operand.tmp 6), (1, Operand.tmp 11), (2, Operand.tmp 17), (3, Operand.tmp 23), (4, Operand.tmp 28), (5, Operand.tmp 32), (6, Operand.tmp 36), (7, Operand.tmp 40)], type := 50, pos := "mach.go:53", after := #[{ on := 3, ground := Ground.data }, { on := 8, ground := Ground.data }, { on := 14, ground := Ground.data }, { on := 20, ground := Ground.data }, { on := 25, ground := Ground.data }, { on := 29, ground := Ground.data }, { on := 33, ground := Ground.data }, { on := 37, ground := Ground.data }], guard := none }) (v := .agg (arr 466 F)) rfl (by kernel_rfl) (by kernel_rfl) (by kernel_rfl) (fun _ _ _ h => h) (Or.inl ⟨by rfl, ?_⟩) (by assumption) ?_
  · intro wq hSw
    subst hF
    exact exec_build 50 _ rfl _ (by simp [Act.eval]) _ (hbs.out _ _ _ _ _ _ _ _ _ _ _) _
  try simp only [Act.put, List.setIfInBounds_toArray, List.set_cons_zero, List.set_cons_succ]
  clear hF hHeld
  refine wpAnyH_done (by kernel_rfl) ?_ _
  unfold Ahead
  refine wpOp_step rfl fun K' hK' => ?_
  rw [if_pos (by rfl)]
  have hone : ∀ k, (F k).oneCell' = true := fun k => by
    rw [HF.out]
    exact stF_one (fun _ => mC_one rfl rfl rfl rfl _) (fun _ => mC_one rfl rfl rfl rfl _) rfl rfl rfl rfl rfl rfl k
  refine wp_store_all 50 (.tmp 2) (.tmp 41) rfl gs 50 466 st0 F rfl rfl HF3.out state_size (fun q _ => hone q) ?_
  intro w9 hF9 hT9 hs9
  refine hK' _ _ ?_
  try simp only [List.getElem_toArray, List.getElem_cons_succ, List.getElem_cons_zero, Act.put]
  have HBZ := Lib.hid (HB3.out.trans (hT9.below (by rw [HGS.out]; exact Nat.le_refl _) HB3.out.size))
  clear hK' K'
  go_wp2_with fail
  exact bodyPost_ret (v := .agg (arr 466 F)) (result_seg Tryz.results10 _ _ gs 50 466 F _ rfl hF9 Tryz.underlying50 rfl state_size) rfl ⟨F, rfl, hone, by rw [HF.out]; rfl, by rw [HF.out]; rfl, by rw [HF.out]; rfl, HBZ.out⟩
end Go.Proofs.YtpigkppnelnhiaaGreat