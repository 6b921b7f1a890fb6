/- Package pack: a container made, read back, and made beside another. Laid by wip/tools/mkpkx.py. -/
import Derived.Test.YtmihdhceicmnlaaPkW
namespace Go.Proofs.Ytmihdhceicmnlaa.Pak
open Go.ChangeShapes Go.WideShapes Go.ChangeAt Go.RowKit
set_option linter.unusedVariables false
set_option linter.unusedSimpArgs false
set_option maxRecDepth 100000
section
variable {P : Program} {w : World}
theorem exec_load_fb {op : Oper} {ev : Operand → Value} (ty : TypeId) (x : Operand) (ho : op.op = .load ty x) (g : Nat) (hx : ev x = .pointer (some ⟨g, 0, none⟩)) (t : TypeId) (n : Nat) (f : Nat → Value) (d : TypeDesc) (hg : FB w g t n f)
    (hu : P.underlying ty = some d) (hd : (match d with | .struct _ | .array _ _ => true | _ => false) = true) (hi : (P.info? ty).map (·.size) = some n) : (execOp ev op).run P w = .ok (.value (.agg (arr n f))) w := by
  unfold execOp
  simp only [ho, hx, Instr.loadAt, Instr.sureAddr, Sem.run_bind, Sem.run_pure, Result.andThen_ok, run_loadVar_seg w g 0 t ty n n f d hg (by omega) hu hd hi]
  rw [arr_congr (g := f) (fun k _ => by rw [Nat.zero_add])]
end
theorem same_enc {a b : Pk} (ha : encE a = 0) (hb : encE b = 0) : decide (encW a = encW b) = samePk a b := by
  cases h : samePk a b with
  | true => exact decide_eq_true ((unlike ha hb).2 ((samePk_iff a b).1 h))
  | false => exact decide_eq_false fun e => by rw [(samePk_iff a b).2 ((unlike ha hb).1 e)] at h; cases h
structure BkS (ga gb : Nat) (X Y : Nat → Value) (W : World) : Prop where
  a : FB W ga 25 5 X
  b : FB W gb 25 5 Y
set_option maxHeartbeats 8000000 in
theorem packBack_any (w : World) (a : Pk) (vd vt vc : Value) (b : Pk) (vd' vt' vc' : Value) (ha : PkAt w vd vt vc a) (hsa : Small a) (hb : PkAt w vd' vt' vc' b) (hsb : Small b) :
    Calls Try.prog 5 #[.agg (arr 5 (pkF a.lo a.hi vd vt vc)), .agg (arr 5 (pkF b.lo b.hi vd' vt' vc'))] w (RetB w (.bool true)) := by
  obtain ⟨X, hX⟩ : ∃ X, X = pkF a.lo a.hi vd vt vc := ⟨_, rfl⟩
  obtain ⟨Y, hY⟩ : ∃ Y, Y = pkF b.lo b.hi vd' vt' vc' := ⟨_, rfl⟩
  rw [← hX, ← hY]
  have HX := Lib.hid hX
  have HY := Lib.hid hY
  have HPA := Lib.hid ha
  have HPB := Lib.hid hb
  have HSA := Lib.hid hsa
  have HSB := Lib.hid hsb
  clear hX hY ha hb hsa hsb
  go_enter Try.func5, Try.ntmps5
  go_upto_region 1 with (first
    | (refine wpList_box_seg rfl _ (.tmp 0) rfl 5 X rfl ?_; intro w1 h1 hB1 hs1; clear hs1)
    | (refine wpList_box_seg rfl _ (.tmp 1) rfl 5 Y rfl ?_; intro w2 h2 hB2 hs2))
  obtain ⟨ga, hga⟩ : ∃ g, g = w.heap.size := ⟨_, rfl⟩
  obtain ⟨gb, hgb⟩ : ∃ g, g = w1.heap.size := ⟨_, rfl⟩
  rw [← hga] at h1 ⊢
  rw [← hgb] at h2 ⊢
  have HB2 := Lib.hid (show Below w.heap.size w w2 from hB1.trans (hB2.mono hB1.size))
  have HS2 := Lib.hid (show BkS ga gb X Y w2 from ⟨h1.up hB2, h2⟩)
  clear h1 hB1 h2 hB2 hs2 hga hgb
  go_upto_region 3 with (go_at_call 8; refine (awake_any w2).mono ?_; rintro e w3 ⟨rfl, hB3⟩)
  have HS3 := Lib.hid (show BkS ga gb X Y w3 from ⟨HS2.out.a.up hB3, HS2.out.b.up hB3⟩)
  have HB3 := Lib.hid (HB2.out.trans (hB3.mono HB2.out.size))
  clear hB3 HS2 HB2
  go_upto_region 4 with (first
    | (refine wpList_load_all rfl 25 _ rfl ga rfl 25 5 X _ HS3.out.a Try.underlying25 rfl sizePk ?_)
    | (go_at_call 13; rw [HX.out]; refine (copyPack_any w3 a _ _ _ (HPA.out.up HB3.out) HSA.out.data HSA.out.code HSA.out.tabs).mono ?_; rintro e w4 ⟨ud, ut, uc, rfl, hP4, hB4⟩; have HP4 := Lib.hid hP4; have HB4 := Lib.hid (HB3.out.trans (hB4.mono HB3.out.size)); have HS4 := Lib.hid (show BkS ga gb X Y w4 from ⟨HS3.out.a.up hB4, HS3.out.b.up hB4⟩); clear hP4 hB4; rw [← HX.out]; obtain ⟨Z, hZ⟩ : ∃ Z, Z = pkF a.lo a.hi ud ut uc := ⟨_, rfl⟩; rw [← hZ]; have HZ := Lib.hid hZ; clear hZ)
    | (go_at_call 11; rw [HZ.out]; refine (encode_any w4 a _ _ _ HP4.out HSA.out.bd HSA.out.bc HSA.out.code (by have := HSA.out.tabs; omega)).mono ?_; rintro e w5 ⟨hB5, v, rfl, hv⟩; rw [← HZ.out]; have HV := Lib.hid hv; have HS5 := Lib.hid (show BkS ga gb X Y w5 from ⟨HS4.out.a.up hB5, HS4.out.b.up hB5⟩); have HB5 := Lib.hid (HB4.out.trans (hB5.mono HB4.out.size)); clear hv hB5; obtain ⟨A, n, c, rfl, hm⟩ := enc_form HV.out; have HM := Lib.hid (show MadeAt w5 a A n c from hm); clear hm HV; obtain ⟨ea, hea⟩ : ∃ ee, ee = encE a := ⟨_, rfl⟩; rw [← hea]; have HEA := Lib.hid hea; clear hea))
  clear HP4 HB4 HS4 HB3 HS3 HZ
  go_upto_region 5 with (first
    | (refine wpList_load_all rfl 25 _ rfl gb rfl 25 5 Y _ HS5.out.b Try.underlying25 rfl sizePk ?_)
    | (go_at_call 13; rw [HY.out]; refine (copyPack_any w5 b _ _ _ (HPB.out.up HB5.out) HSB.out.data HSB.out.code HSB.out.tabs).mono ?_; rintro e w6 ⟨ud', ut', uc', rfl, hP6, hB6⟩; have HP6 := Lib.hid hP6; have HM6 := Lib.hid (HM.out.up hB6); have HB6 := Lib.hid (HB5.out.trans (hB6.mono HB5.out.size)); have HS6 := Lib.hid (show BkS ga gb X Y w6 from ⟨HS5.out.a.up hB6, HS5.out.b.up hB6⟩); clear hP6 hB6; rw [← HY.out]; obtain ⟨Z', hZ'⟩ : ∃ Z, Z = pkF b.lo b.hi ud' ut' uc' := ⟨_, rfl⟩; rw [← hZ']; have HZ' := Lib.hid hZ'; clear hZ')
    | (go_at_call 11; rw [HZ'.out]; refine (encode_any w6 b _ _ _ HP6.out HSB.out.bd HSB.out.bc HSB.out.code (by have := HSB.out.tabs; omega)).mono ?_; rintro e w7 ⟨hB7, v, rfl, hv⟩; rw [← HZ'.out]; have HV := Lib.hid hv; have HS7 := Lib.hid (show BkS ga gb X Y w7 from ⟨HS6.out.a.up hB7, HS6.out.b.up hB7⟩); have HM7 := Lib.hid (HM6.out.up hB7); have HB7 := Lib.hid (HB6.out.trans (hB7.mono HB6.out.size)); clear hv hB7; obtain ⟨A', n', c', rfl, hm⟩ := enc_form HV.out; have HN := Lib.hid (show MadeAt w7 b A' n' c' from hm); clear hm HV; obtain ⟨eb, heb⟩ : ∃ ee, ee = encE b := ⟨_, rfl⟩; rw [← heb]; have HEB := Lib.hid heb; clear heb))
  clear HP6 HB6 HS6 HB5 HS5 HZ' HM HM6
  by_cases h0 : ea = 0
  case neg =>
    have t0 : (ea == 0) = false := by rw [beq_eq_false_iff_ne]; exact h0
    have t1 : (ea != 0) = true := by rw [bne_iff_ne]; exact h0
    obtain rfl : n = 0 := HM7.out.2 (by rw [← HEA.out]; exact h0)
    clear h0
    go_upto_region 11 with fail
    clear HN HM7 HS7
    go_quiet (fail)
    go_wp2_with fail
    go_ret
    exact ⟨rfl, below_drewN HB7.out _⟩
  subst h0
  have HE0 := Lib.hid HEA.out.symm
  have HSL := Lib.hid (HM7.out.1 HE0.out)
  clear HM7 HEA
  have hn16 : 16 ≤ n ∧ n ≤ 131072 := by
    have h1 := HSL.out.len.out
    have h2 := enc_len a
    have h3 := body_len a
    have h4 := (encE_zero HE0.out).2
    omega
  have HYA := Lib.hid (enc_bytes HSA.out.bd HSA.out.bc)
  go_upto_region 7 with (first
    | (go_at_call 20; refine (copyBytes_own w7 A n c (encW a) HSL.out (by omega)).mono ?_; rintro e w8 ⟨v8, rfl, hO8, hB8⟩; have HS8 := Lib.hid (show BkS ga gb X Y w8 from ⟨HS7.out.a.up hB8, HS7.out.b.up hB8⟩); have HSL8 := Lib.hid (HSL.out.up hB8); have HN8 := Lib.hid (HN.out.up hB8); have HB8 := Lib.hid (HB7.out.trans (hB8.mono HB7.out.size)); clear hB8; obtain ⟨A8, n8, c8, rfl, hS8⟩ := own_full hO8; obtain rfl : n = n8 := HSL.out.len.out.symm.trans hS8.len.out; have HSC := Lib.hid hS8; clear hS8 hO8)
    | (go_at_call 23; refine (decode_any w8 _ _ _ _ HSC.out HYA.out (by omega)).mono ?_; rw [show decP (encW a) = .ok a from back HE0.out]; rintro e w9 ⟨hB9, vd9, vt9, vc9, rfl, hd, ht, hc⟩; have HS9 := Lib.hid (show BkS ga gb X Y w9 from ⟨HS8.out.a.up hB9, HS8.out.b.up hB9⟩); have HSL9 := Lib.hid (HSL8.out.up hB9); have HN9 := Lib.hid (HN8.out.up hB9); have HB9 := Lib.hid (HB8.out.trans (hB9.mono HB8.out.size)); have HD := Lib.hid (And.intro hd (And.intro ht hc)); clear hB9 hd ht hc)
    | (refine wpList_alloc_seg rfl 25 rfl 5 zeroPkF zeroPk ?_; intro w10 h10 hB10 hs10)
    | (refine wpList_store_all rfl 25 _ _ rfl w9.heap.size 25 5 _ (pkF a.lo a.hi vd9 vt9 vc9) rfl rfl h10 sizePk (pkF_one (ownB_one HD.out.1) (ownT_form HD.out.2.1) (ownB_one HD.out.2.2)) ?_; intro w11 h11 hT11 hs11))
  obtain ⟨gr, hgr⟩ : ∃ gr, gr = w9.heap.size := ⟨_, rfl⟩
  have hb11 : Below w9.heap.size w9 w11 := hB10.trans (hT11.below (Nat.le_refl _) hB10.size)
  rw [← hgr] at h11 ⊢
  have HP11 := Lib.hid ((pkAt_of HD.out.1 HD.out.2.1 HD.out.2.2).up hb11)
  have HS11 := Lib.hid (show BkS ga gb X Y w11 from ⟨HS9.out.a.up hb11, HS9.out.b.up hb11⟩)
  have HSL11 := Lib.hid (HSL9.out.up hb11)
  have HN11 := Lib.hid (HN9.out.up hb11)
  have HB11 := Lib.hid (HB9.out.trans (hb11.mono HB9.out.size))
  have x0 : w11.cell? ⟨gr, 0, none⟩ = some (.int .i64 a.lo) := h11.cell 0 (by decide)
  have x1 : w11.cell? ⟨gr, 1, none⟩ = some (.int .i64 a.hi) := h11.cell 1 (by decide)
  have x2 : w11.cell? ⟨gr, 2, none⟩ = some vd9 := h11.cell 2 (by decide)
  have x3 : w11.cell? ⟨gr, 3, none⟩ = some vt9 := h11.cell 3 (by decide)
  have x4 : w11.cell? ⟨gr, 4, none⟩ = some vc9 := h11.cell 4 (by decide)
  have y0 : w11.cell? ⟨ga, 0, none⟩ = some (.int .i64 a.lo) := by rw [HS11.out.a.cell 0 (by decide), HX.out]; rfl
  have y1 : w11.cell? ⟨ga, 1, none⟩ = some (.int .i64 a.hi) := by rw [HS11.out.a.cell 1 (by decide), HX.out]; rfl
  have y2 : w11.cell? ⟨ga, 2, none⟩ = some vd := by rw [HS11.out.a.cell 2 (by decide), HX.out]; rfl
  have y3 : w11.cell? ⟨ga, 3, none⟩ = some vt := by rw [HS11.out.a.cell 3 (by decide), HX.out]; rfl
  have y4 : w11.cell? ⟨ga, 4, none⟩ = some vc := by rw [HS11.out.a.cell 4 (by decide), HX.out]; rfl
  have HSP := Lib.hid (show Calls Try.prog 14 #[.agg #[.int .i64 a.lo, .int .i64 a.hi, vd9, vt9, vc9], .agg #[.int .i64 a.lo, .int .i64 a.hi, vd, vt, vc]] w11 (RetB w11 (.bool true)) from by
    have h1 := samePack_any w11 a a _ _ _ _ _ _ HP11.out (HPA.out.up HB11.out) HSA.out.bd HSA.out.bc HSA.out.bd HSA.out.bc (by have := HSA.out.tabs; omega) (by have := HSA.out.tabs; omega)
    rw [(samePk_iff a a).2 rfl] at h1
    exact h1)
  clear h10 hB10 hs10 h11 hT11 hs11 hb11 HS7 HSL HN HB7 HS8 HSL8 HN8 HB8 HSC HS9 HSL9 HN9 HB9 HD hgr
  go_upto_region 11 with (go_at_call 14; refine HSP.out.mono ?_; rintro e w12 ⟨rfl, hB12⟩)
  have HS12 := Lib.hid (show BkS ga gb X Y w12 from ⟨HS11.out.a.up hB12, HS11.out.b.up hB12⟩)
  have HSL12 := Lib.hid (HSL11.out.up hB12)
  have HN12 := Lib.hid (HN11.out.up hB12)
  have HB12 := Lib.hid (HB11.out.trans (hB12.mono HB11.out.size))
  clear hB12 HS11 HSL11 HN11 HB11 x0 x1 x2 x3 x4 y0 y1 y2 y3 y4 HSP HP11
  by_cases h1 : eb = 0
  case neg =>
    have t1 : (eb != 0) = true := by rw [bne_iff_ne]; exact h1
    clear h1
    go_quiet (fail)
    go_wp2_with fail
    go_ret
    exact ⟨rfl, below_drewN HB12.out _⟩
  subst h1
  have HE1 := Lib.hid HEB.out.symm
  have HTL := Lib.hid (HN12.out.1 HE1.out)
  clear HN12 HEB
  obtain ⟨r, hr⟩ : ∃ r, r = samePk a b := ⟨_, rfl⟩
  have HR := Lib.hid hr
  clear hr
  refine wp_region_held_drew (S := fun W => BkS ga gb X Y W) (by kernel_rfl) ⟨HS12.out.a.drewN 1, HS12.out.b.drewN 1⟩ (fun hHeld => ?_)
  refine wpAnyH_take (i := 0) (oi := { dst := some 55, op := Op.move (Operand.tmp 6), type := 36, pos := "outright.go:28", after := #[], guard := none }) (v := .int .i64 0) rfl (by kernel_rfl) (by kernel_rfl) (by kernel_rfl) (fun _ _ _ h => h) (Or.inl ⟨by rfl, ?_⟩) (by assumption) ?_
  · intro w hSw
    go_simp
  try simp only [Act.put, List.setIfInBounds_toArray, List.set_cons_zero, List.set_cons_succ]
  refine wpAnyH_take (i := 1) (oi := { dst := some 56, op := Op.binOp BinOp.neq 36 (Operand.tmp 55) (Operand.const (Value.int IntKind.i64 0)) 36, type := 4, pos := "outright.go:28", after := #[{ on := 0, ground := Ground.data }], guard := none }) (v := .bool false) rfl (by kernel_rfl) (by kernel_rfl) (by kernel_rfl) (fun _ _ _ h => h) (Or.inl ⟨by rfl, ?_⟩) (by assumption) ?_
  · intro w hSw
    go_simp
  try simp only [Act.put, List.setIfInBounds_toArray, List.set_cons_zero, List.set_cons_succ]
  refine wpAnyH_take (i := 2) (oi := { dst := some 57, op := Op.move (Operand.tmp 56), type := 4, pos := "outright.go:28", after := #[{ on := 1, ground := Ground.data }], guard := none }) (v := .bool false) rfl (by kernel_rfl) (by kernel_rfl) (by kernel_rfl) (fun _ _ _ h => h) (Or.inl ⟨by rfl, ?_⟩) (by assumption) ?_
  · intro w hSw
    go_simp
  try simp only [Act.put, List.setIfInBounds_toArray, List.set_cons_zero, List.set_cons_succ]
  refine wpAnyH_take (i := 3) (oi := { dst := some 58, op := Op.move (Operand.tmp 8), type := 36, pos := "outright.go:28", after := #[{ on := 2, ground := Ground.guard }], guard := some (2, false) }) (v := .int .i64 0) rfl (by kernel_rfl) (by kernel_rfl) (by kernel_rfl) (fun _ _ _ h => h) (Or.inl ⟨by rfl, ?_⟩) (by assumption) ?_
  · intro w hSw
    go_simp
  try simp only [Act.put, List.setIfInBounds_toArray, List.set_cons_zero, List.set_cons_succ]
  refine wpAnyH_take (i := 4) (oi := { dst := some 59, op := Op.binOp BinOp.neq 36 (Operand.tmp 58) (Operand.const (Value.int IntKind.i64 0)) 36, type := 4, pos := "outright.go:28", after := #[{ on := 3, ground := Ground.data }, { on := 2, ground := Ground.guard }], guard := some (2, false) }) (v := .bool false) rfl (by kernel_rfl) (by kernel_rfl) (by kernel_rfl) (fun _ _ _ h => h) (Or.inl ⟨by rfl, ?_⟩) (by assumption) ?_
  · intro w hSw
    go_simp
  try simp only [Act.put, List.setIfInBounds_toArray, List.set_cons_zero, List.set_cons_succ]
  refine wpAnyH_take (i := 5) (oi := { dst := some 60, op := Op.pick (Operand.tmp 57) (Operand.const (Value.bool true)) (Operand.tmp 59), type := 4, pos := "outright.go:28", after := #[{ on := 2, ground := Ground.data }, { on := 4, ground := Ground.data }], guard := none }) (v := .bool false) rfl (by kernel_rfl) (by kernel_rfl) (by kernel_rfl) (fun _ _ _ h => h) (Or.inl ⟨by rfl, ?_⟩) (by assumption) ?_
  · intro w hSw
    go_simp
  try simp only [Act.put, List.setIfInBounds_toArray, List.set_cons_zero, List.set_cons_succ]
  refine wpAnyH_take (i := 6) (oi := { dst := some 61, op := Op.move (Operand.tmp 60), type := 4, pos := "outright.go:28", after := #[{ on := 5, ground := Ground.data }, { on := 2, ground := Ground.chain }], guard := none }) (v := .bool false) rfl (by kernel_rfl) (by kernel_rfl) (by kernel_rfl) (fun _ _ _ h => h) (Or.inl ⟨by rfl, ?_⟩) (by assumption) ?_
  · intro w hSw
    go_simp
  try simp only [Act.put, List.setIfInBounds_toArray, List.set_cons_zero, List.set_cons_succ]
  refine wpAnyH_take (i := 7) (oi := { dst := some 62, op := Op.move (Operand.tmp 5), type := 22, pos := "outright.go:28", after := #[{ on := 6, ground := Ground.guard }], guard := some (6, false) }) (v := .slice A n c) rfl (by kernel_rfl) (by kernel_rfl) (by kernel_rfl) (fun _ _ _ h => h) (Or.inl ⟨by rfl, ?_⟩) (by assumption) ?_
  · intro w hSw
    go_simp
  try simp only [Act.put, List.setIfInBounds_toArray, List.set_cons_zero, List.set_cons_succ]
  refine wpAnyH_take (i := 8) (oi := { dst := some 63, op := Op.move (Operand.tmp 7), type := 22, pos := "outright.go:28", after := #[{ on := 6, ground := Ground.guard }], guard := some (6, false) }) (v := .slice A' n' c') rfl (by kernel_rfl) (by kernel_rfl) (by kernel_rfl) (fun _ _ _ h => h) (Or.inl ⟨by rfl, ?_⟩) (by assumption) ?_
  · intro w hSw
    go_simp
  try simp only [Act.put, List.setIfInBounds_toArray, List.set_cons_zero, List.set_cons_succ]
  refine wpAnyH_take (i := 10) (oi := { dst := some 65, op := Op.load 25 (Operand.tmp 2), type := 25, pos := "outright.go:28", after := #[{ on := 6, ground := Ground.guard }], guard := some (6, false) }) (v := .agg (arr 5 X)) rfl (by kernel_rfl) (by kernel_rfl) (by kernel_rfl) (fun _ _ _ h => h) (Or.inl ⟨by rfl, ?_⟩) (by assumption) ?_
  · intro w hSw
    exact exec_load_fb 25 _ rfl ga rfl 25 5 X _ hSw.a Try.underlying25 rfl sizePk
  try simp only [Act.put, List.setIfInBounds_toArray, List.set_cons_zero, List.set_cons_succ]
  refine wpAnyH_take (i := 11) (oi := { dst := some 66, op := Op.load 25 (Operand.tmp 3), type := 25, pos := "outright.go:28", after := #[{ on := 6, ground := Ground.guard }], guard := some (6, false) }) (v := .agg (arr 5 Y)) rfl (by kernel_rfl) (by kernel_rfl) (by kernel_rfl) (fun _ _ _ h => h) (Or.inl ⟨by rfl, ?_⟩) (by assumption) ?_
  · intro w hSw
    exact exec_load_fb 25 _ rfl gb rfl 25 5 Y _ hSw.b Try.underlying25 rfl sizePk
  try simp only [Act.put, List.setIfInBounds_toArray, List.set_cons_zero, List.set_cons_succ]
  refine wpAnyH_ready (rs := [9]) (by kernel_rfl) (by simp) ?_
  refine AllReadyH.cons (o := { dst := some 64, op := Op.call { callee := Callee.value (Operand.func 17), args := #[Operand.tmp 62, Operand.tmp 63], argTypes := #[22, 22] }, type := 4, pos := "outright.go:28", after := #[{ on := 7, ground := Ground.data }, { on := 8, ground := Ground.data }, { on := 6, ground := Ground.chain }, { on := 6, ground := Ground.guard }], guard := some (6, false) }) rfl ?_ ?_
  rotate_left
  · exact AllReadyH.nil
  intro K hK
  go_simp
  go_at_call 17
  refine (sameBytes_any w12.drew A n c A' n' c' (encW a) (encW b) HSL12.out.len.out HTL.out.len.out (HSL12.out.up (below_drewN (Below.refl _ _) 1)).byt (HTL.out.up (below_drewN (Below.refl _ _) 1)).byt HYA.out (enc_bytes HSB.out.bd HSB.out.bc)).mono ?_
  rw [same_enc HE0.out HE1.out, ← HR.out]
  rintro e u ⟨rfl, rfl⟩
  go_simp
  refine hK.out _ _ hHeld (fun hHeld => ?_)
  clear hK K
  try simp only [Act.put, List.setIfInBounds_toArray, List.set_cons_zero, List.set_cons_succ]
  refine wpAnyH_ready (rs := [12]) (by kernel_rfl) (by simp) ?_
  refine AllReadyH.cons (o := { dst := some 67, op := Op.call { callee := Callee.value (Operand.func 14), args := #[Operand.tmp 65, Operand.tmp 66], argTypes := #[25, 25] }, type := 4, pos := "outright.go:28", after := #[{ on := 10, ground := Ground.data }, { on := 11, ground := Ground.data }, { on := 9, ground := Ground.chain }, { on := 6, ground := Ground.guard }], guard := some (6, false) }) rfl ?_ ?_
  rotate_left
  · exact AllReadyH.nil
  intro K hK
  go_simp
  go_at_call 14
  rw [HX.out, HY.out]
  refine (samePack_any w12.drew a b _ _ _ _ _ _ (HPA.out.up (below_drewN HB12.out 1)) (HPB.out.up (below_drewN HB12.out 1)) HSA.out.bd HSA.out.bc HSB.out.bd HSB.out.bc (by have := HSA.out.tabs; omega) (by have := HSB.out.tabs; omega)).mono ?_
  rw [← HR.out, ← HX.out, ← HY.out]
  rintro e w13 ⟨rfl, hB13⟩
  have HB13 := Lib.hid ((below_drewN HB12.out 1).trans (hB13.mono HB12.out.size))
  have HS13 := Lib.hid (show BkS ga gb X Y w13 from ⟨hHeld.a.up hB13, hHeld.b.up hB13⟩)
  clear hB13 hHeld
  go_simp
  refine hK.out _ _ HS13.out (fun hHeld => ?_)
  clear hK K
  try simp only [Act.put, List.setIfInBounds_toArray, List.set_cons_zero, List.set_cons_succ]
  refine wpAnyH_take (i := 13) (oi := { dst := some 68, op := Op.binOp BinOp.eql 4 (Operand.tmp 64) (Operand.tmp 67) 4, type := 4, pos := "outright.go:28", after := #[{ on := 9, ground := Ground.data }, { on := 12, ground := Ground.data }, { on := 6, ground := Ground.guard }], guard := some (6, false) }) (v := .bool true) rfl (by kernel_rfl) (by kernel_rfl) (by kernel_rfl) (fun _ _ _ h => h) (Or.inl ⟨by rfl, ?_⟩) (by assumption) ?_
  · intro w hSw
    go_simp
  try simp only [Act.put, List.setIfInBounds_toArray, List.set_cons_zero, List.set_cons_succ]
  refine wpAnyH_take (i := 14) (oi := { dst := some 69, op := Op.pick (Operand.tmp 61) (Operand.const (Value.bool true)) (Operand.tmp 68), type := 4, pos := "outright.go:28", after := #[{ on := 6, ground := Ground.data }, { on := 13, ground := Ground.data }], guard := none }) (v := .bool true) rfl (by kernel_rfl) (by kernel_rfl) (by kernel_rfl) (fun _ _ _ h => h) (Or.inl ⟨by rfl, ?_⟩) (by assumption) ?_
  · intro w hSw
    go_simp
  try simp only [Act.put, List.setIfInBounds_toArray, List.set_cons_zero, List.set_cons_succ]
  refine wpAnyH_ready (rs := [15]) (by kernel_rfl) (by simp) ?_
  refine AllReadyH.cons (o := { dst := some 4, op := Op.assign (Operand.tmp 69), type := 4, pos := "outright.go:28", after := #[{ on := 14, ground := Ground.data }, { on := 12, ground := Ground.chain }, { on := 0, ground := Ground.phase }, { on := 1, ground := Ground.phase }, { on := 2, ground := Ground.phase }, { on := 3, ground := Ground.phase }, { on := 4, ground := Ground.phase }, { on := 5, ground := Ground.phase }, { on := 6, ground := Ground.phase }, { on := 7, ground := Ground.phase }, { on := 8, ground := Ground.phase }, { on := 9, ground := Ground.phase }, { on := 10, ground := Ground.phase }, { on := 11, ground := Ground.phase }, { on := 12, ground := Ground.phase }, { on := 13, ground := Ground.phase }, { on := 14, ground := Ground.phase }], guard := none }) rfl ?_ ?_
  rotate_left
  · exact AllReadyH.nil
  intro K hK
  go_simp
  refine hK.out _ _ HS13.out (fun hHeld => ?_)
  clear hK K
  try simp only [Act.put, List.setIfInBounds_toArray, List.set_cons_zero, List.set_cons_succ]
  clear hHeld
  refine wpAnyH_done (by kernel_rfl) ?_ _
  go_wp2_with fail
  go_ret
  exact ⟨rfl, HB13.out⟩
end Go.Proofs.Ytmihdhceicmnlaa.Pak
