/- Package pack: a container made, and its parts looked up in it. Laid by wip/tools/mkpkz.py. -/
import Derived.Test.YtmihdhceicmnlaaPkY
namespace Go.Proofs.Ytmihdhceicmnlaa.Pak
open Go.ChangeShapes Go.WideShapes Go.ChangeAt Go.RowKit
set_option linter.unusedVariables false
set_option linter.unusedSimpArgs false
set_option maxRecDepth 100000
theorem step_append_bytes {ops : Array Oper} {o : Oper} {a : Act} {w : World} {K : Act → World → Prop} {Q : Exit → Act → World → Prop} {E : Prop} (hgd : o.guard = none) (s x : Operand)
    (ho : o.op = .call { callee := .builtin .append, args := #[s, x], argTypes := #[22, 22] })
    (base : Nat) (v : Value) (L : List Int) (hs : a.eval s = v) (hown : OwnB w base v L) (A : Option Addr) (m c : Nat) (M : List Int) (hx : a.eval x = .slice A m c) (hm : M.length = m) (hr : BytesAt w A M)
    (hlen : L.length + m ≤ 140737488355328) (hbase : base ≤ w.heap.size)
    (h : ∀ v' w', OwnB w' base v' (L ++ M) → w.grownBy w' v.ownBlock → K (a.put o.dst v') w') : if Region.wanted o (yielded ops a.tmps) = true then Oper.wp Try.prog o a w K Q else E := by
  subst hm
  obtain ⟨i0, hi, hz0, hz1, hz2⟩ := info_parts byte_info
  refine step_append_any w hgd s x 22 ho base 5 i0 (.int .u8 0) 1 1 Try.underlying22 hi hz0 hz1 hz2 rfl (by decide) v L.length _ hs hown w.heap.size A M.length c _ hx hr.reads
    (fun u hu => ?_) (by unfold maxLen; omega) (by omega) hbase ?_
  · simp only [List.mem_map] at hu
    obtain ⟨z, _, rfl⟩ := hu
    rfl
  · intro v' w' h1 h2 _
    refine h v' w' ?_ h2
    unfold OwnB
    rw [List.length_append, List.map_append]
    exact h1
section
variable {P : Program} {ops : Array Oper} {w : World}
theorem wpList_index_arr {rest : List Oper} {o : Oper} {a : Act} {Q : Exit → Act → World → Prop} (hgd : o.guard = none) (t : TypeId) (x i : Operand) (ho : o.op = .index t x i) (v : Value)
    (hr : (Instr.index t (a.eval x) (a.eval i)).run P w = .ok v w) (h : wpList P ops Q rest (a.put o.dst v) w) : wpList P ops Q (o :: rest) a w :=
  wpList_plain hgd fun K hK => by
    unfold Oper.wp execOp
    simp only [ho, Sem.run_bind, hr, Result.andThen_ok, Sem.run_pure]
    exact hK _ _ h
end
structure RdS (g bt offt nt ct j : Nat) (r d : Int) (W : World) : Prop where
  z3 : W.cell? ⟨g, 3, none⟩ = some (.slice (some ⟨bt, offt, none⟩) nt ct)
  c0 : W.cell? ⟨bt, offt + j * 2, none⟩ = some (.int .i64 r)
  c1 : W.cell? ⟨bt, offt + j * 2 + 1, none⟩ = some (.int .i64 d)
  g : g < W.heap.size
  b : bt < W.heap.size
theorem RdS.up {g bt offt nt ct j : Nat} {r d : Int} {W W' : World} (h : RdS g bt offt nt ct j r d W) (hb : Below W.heap.size W W') : RdS g bt offt nt ct j r d W' :=
  ⟨(cell_same (hb.block g h.g) _).trans h.z3, (cell_same (hb.block bt h.b) _).trans h.c0, (cell_same (hb.block bt h.b) _).trans h.c1, Nat.lt_of_lt_of_le h.g hb.size, Nat.lt_of_lt_of_le h.b hb.size⟩
set_option maxHeartbeats 16000000 in
theorem packParts_any (w : World) (k : Pk) (vd vt vc : Value) (hk : PkAt w vd vt vc k) (hs : Small k) :
    Calls Try.prog 7 #[.agg (arr 5 (pkF k.lo k.hi vd vt vc))] w (RetB w (.bool true)) := by
  obtain ⟨⟨Ad, nd, cd, rfl, hDa⟩, ⟨At, nt, ct, rfl, hTb⟩, Ac, nc, cc, rfl, hCo⟩ := id hk
  have HDA := Lib.hid hDa
  have HTB := Lib.hid hTb
  have HCO := Lib.hid hCo
  clear hDa hTb hCo
  obtain ⟨X, hX⟩ : ∃ X, X = pkF k.lo k.hi (.slice Ad nd cd) (.slice At nt ct) (.slice Ac nc cc) := ⟨_, rfl⟩
  rw [← hX]
  have HX := Lib.hid hX
  have HK := Lib.hid hk
  have HS := Lib.hid hs
  clear hX hk hs
  go_enter Try.func7, Try.ntmps7
  go_upto_region 1 with (refine wpList_box_seg rfl _ (.tmp 0) rfl 5 X rfl ?_; intro w1 h1 hB1 hs1)
  obtain ⟨g, hg⟩ : ∃ g, g = w.heap.size := ⟨_, rfl⟩
  rw [← hg] at h1 ⊢
  have HF1 := Lib.hid h1
  have HB1 := Lib.hid hB1
  clear h1 hB1 hs1 hg
  go_upto_region 3 with (go_at_call 8; refine (awake_any w1).mono ?_; rintro e w2 ⟨rfl, hB2⟩)
  have HF2 := Lib.hid (HF1.out.up hB2)
  have HB2 := Lib.hid (HB1.out.trans (hB2.mono HB1.out.size))
  clear hB2 HF1 HB1
  go_upto_region 4 with (first
    | (refine wpList_load_all rfl 25 _ rfl g rfl 25 5 X _ HF2.out Try.underlying25 rfl sizePk ?_)
    | (go_at_call 13; rw [HX.out]; refine (copyPack_any w2 k _ _ _ (HK.out.up HB2.out) HS.out.data HS.out.code HS.out.tabs).mono ?_; rw [← HX.out]; rintro e w3 ⟨ud, ut, uc, rfl, hP3, hB3⟩; have HP3 := Lib.hid hP3; have HF3 := Lib.hid (HF2.out.up hB3); have HB3 := Lib.hid (HB2.out.trans (hB3.mono HB2.out.size)); clear hP3 hB3; obtain ⟨Y, hY⟩ : ∃ Y, Y = pkF k.lo k.hi ud ut uc := ⟨_, rfl⟩; rw [← hY]; have HY := Lib.hid hY; clear hY)
    | (go_at_call 11; rw [HY.out]; refine (encode_any w3 k _ _ _ HP3.out HS.out.bd HS.out.bc HS.out.code (by have := HS.out.tabs; omega)).mono ?_; rw [← HY.out]; rintro e w4 ⟨hB4, v, rfl, hv⟩; have HV := Lib.hid hv; have HF4 := Lib.hid (HF3.out.up hB4); have HB4 := Lib.hid (HB3.out.trans (hB4.mono HB3.out.size)); clear hv hB4; obtain ⟨A, n, c, rfl, hm⟩ := enc_form HV.out; have HM := Lib.hid (show MadeAt w4 k A n c from hm); clear hm HV; obtain ⟨ee, hee⟩ : ∃ ee, ee = encE k := ⟨_, rfl⟩; rw [← hee]; have HE := Lib.hid hee; clear hee))
  clear HK HF2 HB2 HP3 HB3 HF3 HY
  by_cases h0 : ee = 0
  case neg =>
    have t0 : (ee != 0) = true := by rw [bne_iff_ne]; exact h0
    obtain rfl : n = 0 := HM.out.2 (by rw [← HE.out]; exact h0)
    clear h0
    go_wp2_with fail
    go_ret
    exact ⟨rfl, HB4.out⟩
  subst h0
  have HE0 := Lib.hid HE.out.symm
  have HSL := Lib.hid (HM.out.1 HE0.out)
  clear HM HE
  have hn16 : 16 ≤ n ∧ n ≤ 131072 := by
    have h1 := HSL.out.len.out
    have h2 := enc_len k
    have h3 := body_len k
    have h4 := (encE_zero HE0.out).2
    omega
  have HYA := Lib.hid (enc_bytes HS.out.bd HS.out.bc)
  have HSZ := Lib.hid (sizes_zero (encE_zero HE0.out).1)
  have t16 : decide ((n : Int) < 16) = false := decide_eq_false (by omega)
  have hcn := HSL.out.cap
  obtain ⟨b, off, rfl, hbl, hcell⟩ := HSL.out.byt (by rw [HSL.out.len.out]; omega)
  obtain ⟨l8, l9, l10, l11⟩ := enc_lens k
  have hl := HSL.out.len.out
  obtain ⟨b0, hb0⟩ : ∃ x, x = k.lo % 256 := ⟨_, rfl⟩
  obtain ⟨b1, hb1⟩ : ∃ x, x = k.lo / 256 % 256 := ⟨_, rfl⟩
  obtain ⟨b2, hb2⟩ : ∃ x, x = k.hi % 256 := ⟨_, rfl⟩
  obtain ⟨b3, hb3⟩ : ∃ x, x = k.hi / 256 % 256 := ⟨_, rfl⟩
  have c8 : w4.cell? ⟨b, off + 8, none⟩ = some (.int .u8 b0) := by rw [hcell 8 (by omega), l8, hb0]; rfl
  have c9 : w4.cell? ⟨b, off + 9, none⟩ = some (.int .u8 b1) := by rw [hcell 9 (by omega), l9, hb1]; rfl
  have c10 : w4.cell? ⟨b, off + 10, none⟩ = some (.int .u8 b2) := by rw [hcell 10 (by omega), l10, hb2]; rfl
  have c11 : w4.cell? ⟨b, off + 11, none⟩ = some (.int .u8 b3) := by rw [hcell 11 (by omega), l11, hb3]; rfl
  obtain ⟨z0, z1, z2, z3, -⟩ := HSZ.out
  have r0 : 0 ≤ b0 ∧ b0 < 256 := by omega
  have r1 : 0 ≤ b1 ∧ b1 < 256 := by omega
  have r2 : 0 ≤ b2 ∧ b2 < 256 := by omega
  have r3 : 0 ≤ b3 ∧ b3 < 256 := by omega
  have tlo : ((b0 + 256 * b1 : Int) != k.lo) = false := by rw [show b0 + 256 * b1 = k.lo by omega]; simp
  have thi : ((b2 + 256 * b3 : Int) != k.hi) = false := by rw [show b2 + 256 * b3 = k.hi by omega]; simp
  have y0 : w4.cell? ⟨g, 0, none⟩ = some (.int .i64 k.lo) := by rw [HF4.out.cell 0 (by decide), HX.out]; rfl
  have y1 : w4.cell? ⟨g, 1, none⟩ = some (.int .i64 k.hi) := by rw [HF4.out.cell 1 (by decide), HX.out]; rfl
  have hc8 : (8 : Int) ≤ c := by omega
  have HCV := Lib.hid (fun m => conv_any (w4.drewN m) (some ⟨b, off, none⟩) 8 c ((encW k).take 8) (by rw [List.length_take, hl]; omega) (bytes_front (HSL.out.up (below_drewN (Below.refl _ _) m)).byt 8))
  rw [enc_head] at HCV
  have heq : ((strOfNums [87, 80, 75, 49, 1, 4, 0, 0]).toList == [87, 80, 75, 49, 1, 4, 0, 0]) = true := by rw [head_lit]; rfl
  have hcv := HCV.out
  generalize strOfNums [87, 80, 75, 49, 1, 4, 0, 0] = S at *
  have HN := Lib.hid hn16
  obtain ⟨hn1, hn2⟩ := hn16
  have p8 : (8 : Int) < n := by omega
  have p9 : (9 : Int) < n := by omega
  have p10 : (10 : Int) < n := by omega
  have p11 : (11 : Int) < n := by omega
  obtain ⟨r0, r0'⟩ := r0
  obtain ⟨r1, r1'⟩ := r1
  obtain ⟨r2, r2'⟩ := r2
  obtain ⟨r3, r3'⟩ := r3
  clear hcell l8 l9 l10 l11 hl hb0 hb1 hb2 hb3 z0 z1 z2 z3 HCV
  go_upto_region 6 with fail
  go_quiet (fail)
  obtain ⟨w5, hw5⟩ : ∃ u, u = w4.drewN nq := ⟨_, rfl⟩
  have HB5 := Lib.hid (show Below w.heap.size w w5 by rw [hw5]; exact below_drewN HB4.out nq)
  have HF5 := Lib.hid (show FB w5 g 25 5 X by rw [hw5]; exact HF4.out.drewN nq)
  have HSL5 := Lib.hid (show Sl w5 (some ⟨b, off, none⟩) n c (encW k) by rw [hw5]; exact HSL.out.up (below_drewN (Below.refl _ _) nq))
  rw [← hw5]
  have HO := Lib.hid (OwnB.nil w5 w5.heap.size)
  have HTW := Lib.hid (HTB.out.up HB5.out)
  clear hw5 HB4 HF4 HSL c8 c9 c10 c11 r0 r0' r1 r1' r2 r2' r3 r3' tlo thi y0 y1 heq hcv hc8 p8 p9 p10 p11 hbl t16
  go_wp2_with fail
  go_loopw [5, 6, 62, 63, 64, 65, 66, 67, 68, 69, 70, 71, 72, 73, 74, 75, 76, 77, 78, 79, 80, 81, 82, 83, 84, 85] (fun a5 a6 _ _ _ _ _ _ _ _ _ _ _ _ _ _ _ _ _ _ _ _ _ _ _ _ wr => ∃ (j : Nat) (M : List Int), a6 = .int .i64 j ∧ j ≤ nt ∧ Hid (M.length = 2 * j) ∧ Hid (M ++ tabB (k.tabs.drop j) = tabB k.tabs) ∧ OwnB wr w5.heap.size a5 M ∧ Below w5.heap.size w5 wr) (fun _ a6 _ _ _ _ _ _ _ _ _ _ _ _ _ _ _ _ _ _ _ _ _ _ _ _ _ => (nt - intOf a6).toNat)
  case atStart => exact ⟨0, [], rfl, Nat.zero_le _, Lib.hid rfl, Lib.hid rfl, HO.out, Below.refl _ _⟩
  case round =>
    obtain ⟨j, M, rfl, hj, HML, HE, hO, hB⟩ := hrel
    clear HO
    have HO := Lib.hid hO
    have HB := Lib.hid hB
    clear hO hB
    have HFR := Lib.hid (HF5.out.up HB.out)
    have y3 : wr.cell? ⟨g, 3, none⟩ = some (.slice At nt ct) := by rw [HFR.out.cell 3 (by decide), HX.out]; rfl
    by_cases hlt : j < nt
    · have hlt' : (j : Int) < nt := by omega
      obtain ⟨x, hx, hdr⟩ := drop_cons (l := k.tabs) (j := j) (by have := HTW.out.len.out; omega)
      rw [hdr] at HE
      obtain ⟨bt, offt, rfl, hblt, hcell⟩ := HTW.out.row (by have := HTW.out.len.out; omega)
      obtain ⟨r, d⟩ := x
      have HR5 := Lib.hid (show RdS g bt offt nt ct j r d w5 from ⟨by rw [HF5.out.cell 3 (by decide), HX.out]; rfl, hcell j (r, d) hx 0 (by decide), hcell j (r, d) hx 1 (by decide), HF5.out.lt, hblt⟩)
      clear hdr hcell hx
      go_upto_region 12 with fail
      obtain ⟨W, hW⟩ : ∃ W, W = wr.drew := ⟨_, rfl⟩
      have hbw : Below wr.heap.size wr W := by rw [hW]; exact below_drewN (Below.refl _ _) 1
      have HSW := Lib.hid (HR5.out.up (HB.out.trans (hbw.mono HB.out.size)))
      have HOW := Lib.hid (ownB_up HO.out hbw)
      have HBW := Lib.hid (HB.out.trans (hbw.mono HB.out.size))
      have e1 := u8_wrap r
      have e2 := u8_wrap d
      have hbx := below_box W (.cells #[.int .u8 (r % 256), .int .u8 (d % 256)] 5)
      have HO4 := Lib.hid (ownB_up HOW.out hbx)
      have HB4 := Lib.hid (HBW.out.trans (hbx.mono HBW.out.size))
      have HBX := Lib.hid (show BytesAt (W.alloc (.cells #[.int .u8 (r % 256), .int .u8 (d % 256)] 5)) (some ⟨wr.heap.size, 0, none⟩) [r % 256, d % 256] from by have h5 := bytes_box2 W (r % 256) (d % 256); rw [show W.heap.size = wr.heap.size by rw [hW]; rfl] at h5; exact h5)
      have HWW := Lib.hid (show (wr.alloc (.cells #[.int .u8 (r % 256), .int .u8 (d % 256)] 5)).drew = W.alloc (.cells #[.int .u8 (r % 256), .int .u8 (d % 256)] 5) by rw [hW]; rfl)
      have HSX := Lib.hid (HSW.out.up hbx)
      have hnt : nt ≤ 8 := by have h5 := HSZ.out.2.2.2.1; have h6 := HTW.out.len.out; omega
      have HLE := Lib.hid (show M.length + 2 ≤ 140737488355328 by have := HML.out; omega)
      have HE2 := Lib.hid (show (M ++ [r % 256, d % 256]) ++ tabB (k.tabs.drop (j + 1)) = tabB k.tabs by rw [← HE.out, tabB_cons, List.append_assoc]; rfl)
      obtain ⟨A3, c3, hv3, -⟩ := HOW.out.form
      subst hv3
      obtain ⟨q, hq⟩ : ∃ q, q = M.length := ⟨_, rfl⟩
      rw [← hq] at HO4 HOW ⊢
      have HS4 := Lib.hid HB4.out.size
      have HMM := Lib.hid (show (M ++ [r % 256, d % 256]).length = 2 * (j + 1) by have := HML.out; simp; omega)
      clear hbx HE hq HOW HO hbw y3 hblt
      refine wp_region_held_drew (S := fun W => RdS g bt offt nt ct j r d W) (by kernel_rfl) (by show RdS g bt offt nt ct j r d wr.drew; rw [← hW]; exact HSW.out) (fun hHeld => ?_)
      refine wpAnyH_take (i := 0) (oi := { dst := some 69, op := Op.move (Operand.tmp 5), type := 22, pos := "outright.go:107", after := #[], guard := none }) (v := .slice A3 q c3) rfl (by kernel_rfl) (by kernel_rfl) (by kernel_rfl) (fun _ _ _ h => h) (Or.inl ⟨by rfl, ?_⟩) (by assumption) ?_
      · intro w hSw
        have q0 := hSw.z3
        have q1 := hSw.c0
        have q2 := hSw.c1
        go_simp
      try simp only [Act.put, List.setIfInBounds_toArray, List.set_cons_zero, List.set_cons_succ]
      refine wpAnyH_take (i := 1) (oi := { dst := some 70, op := Op.fieldAddr 25 (Operand.tmp 1) 3, type := 0, pos := "outright.go:107", after := #[], guard := none }) (v := .pointer (some ⟨g, 3, none⟩)) rfl (by kernel_rfl) (by kernel_rfl) (by kernel_rfl) (fun _ _ _ h => h) (Or.inl ⟨by rfl, ?_⟩) (by assumption) ?_
      · intro w hSw
        have q0 := hSw.z3
        have q1 := hSw.c0
        have q2 := hSw.c1
        go_simp
      try simp only [Act.put, List.setIfInBounds_toArray, List.set_cons_zero, List.set_cons_succ]
      refine wpAnyH_take (i := 2) (oi := { dst := some 71, op := Op.load 23 (Operand.tmp 70), type := 23, pos := "outright.go:107", after := #[{ on := 1, ground := Ground.data }], guard := none }) (v := .slice (some ⟨bt, offt, none⟩) nt ct) rfl (by kernel_rfl) (by kernel_rfl) (by kernel_rfl) (fun _ _ _ h => h) (Or.inl ⟨by rfl, ?_⟩) (by assumption) ?_
      · intro w hSw
        have q0 := hSw.z3
        have q1 := hSw.c0
        have q2 := hSw.c1
        go_simp
      try simp only [Act.put, List.setIfInBounds_toArray, List.set_cons_zero, List.set_cons_succ]
      refine wpAnyH_take (i := 3) (oi := { dst := some 72, op := Op.move (Operand.tmp 6), type := 3, pos := "outright.go:107", after := #[], guard := none }) (v := .int .i64 j) rfl (by kernel_rfl) (by kernel_rfl) (by kernel_rfl) (fun _ _ _ h => h) (Or.inl ⟨by rfl, ?_⟩) (by assumption) ?_
      · intro w hSw
        have q0 := hSw.z3
        have q1 := hSw.c0
        have q2 := hSw.c1
        go_simp
      try simp only [Act.put, List.setIfInBounds_toArray, List.set_cons_zero, List.set_cons_succ]
      refine wpAnyH_take (i := 4) (oi := { dst := some 73, op := Op.indexAddr 23 (Operand.tmp 71) (Operand.tmp 72), type := 0, pos := "outright.go:107", after := #[{ on := 2, ground := Ground.data }, { on := 3, ground := Ground.data }], guard := none }) (v := .pointer (some ⟨bt, offt + j * 2, none⟩)) rfl (by kernel_rfl) (by kernel_rfl) (by kernel_rfl) (fun _ _ _ h => h) (Or.inl ⟨by rfl, ?_⟩) (by assumption) ?_
      · intro w hSw
        have q0 := hSw.z3
        have q1 := hSw.c0
        have q2 := hSw.c1
        go_simp
      try simp only [Act.put, List.setIfInBounds_toArray, List.set_cons_zero, List.set_cons_succ]
      refine wpAnyH_take (i := 5) (oi := { dst := some 74, op := Op.fieldAddr 54 (Operand.tmp 73) 0, type := 0, pos := "outright.go:107", after := #[{ on := 4, ground := Ground.data }], guard := none }) (v := .pointer (some ⟨bt, offt + j * 2, none⟩)) rfl (by kernel_rfl) (by kernel_rfl) (by kernel_rfl) (fun _ _ _ h => h) (Or.inl ⟨by rfl, ?_⟩) (by assumption) ?_
      · intro w hSw
        have q0 := hSw.z3
        have q1 := hSw.c0
        have q2 := hSw.c1
        go_simp
      try simp only [Act.put, List.setIfInBounds_toArray, List.set_cons_zero, List.set_cons_succ]
      refine wpAnyH_take (i := 6) (oi := { dst := some 75, op := Op.load 3 (Operand.tmp 74), type := 3, pos := "outright.go:107", after := #[{ on := 5, ground := Ground.data }], guard := none }) (v := .int .i64 r) rfl (by kernel_rfl) (by kernel_rfl) (by kernel_rfl) (fun _ _ _ h => h) (Or.inl ⟨by rfl, ?_⟩) (by assumption) ?_
      · intro w hSw
        have q0 := hSw.z3
        have q1 := hSw.c0
        have q2 := hSw.c1
        go_simp
      try simp only [Act.put, List.setIfInBounds_toArray, List.set_cons_zero, List.set_cons_succ]
      refine wpAnyH_take (i := 7) (oi := { dst := some 76, op := Op.convert 3 5 (Operand.tmp 75), type := 5, pos := "outright.go:107", after := #[{ on := 6, ground := Ground.data }], guard := none }) (v := .int .u8 (r % 256)) rfl (by kernel_rfl) (by kernel_rfl) (by kernel_rfl) (fun _ _ _ h => h) (Or.inl ⟨by rfl, ?_⟩) (by assumption) ?_
      · intro w hSw
        have q0 := hSw.z3
        have q1 := hSw.c0
        have q2 := hSw.c1
        go_simp
      try simp only [Act.put, List.setIfInBounds_toArray, List.set_cons_zero, List.set_cons_succ]
      refine wpAnyH_take (i := 8) (oi := { dst := some 77, op := Op.fieldAddr 25 (Operand.tmp 1) 3, type := 0, pos := "outright.go:107", after := #[], guard := none }) (v := .pointer (some ⟨g, 3, none⟩)) rfl (by kernel_rfl) (by kernel_rfl) (by kernel_rfl) (fun _ _ _ h => h) (Or.inl ⟨by rfl, ?_⟩) (by assumption) ?_
      · intro w hSw
        have q0 := hSw.z3
        have q1 := hSw.c0
        have q2 := hSw.c1
        go_simp
      try simp only [Act.put, List.setIfInBounds_toArray, List.set_cons_zero, List.set_cons_succ]
      refine wpAnyH_take (i := 9) (oi := { dst := some 78, op := Op.load 23 (Operand.tmp 77), type := 23, pos := "outright.go:107", after := #[{ on := 8, ground := Ground.data }], guard := none }) (v := .slice (some ⟨bt, offt, none⟩) nt ct) rfl (by kernel_rfl) (by kernel_rfl) (by kernel_rfl) (fun _ _ _ h => h) (Or.inl ⟨by rfl, ?_⟩) (by assumption) ?_
      · intro w hSw
        have q0 := hSw.z3
        have q1 := hSw.c0
        have q2 := hSw.c1
        go_simp
      try simp only [Act.put, List.setIfInBounds_toArray, List.set_cons_zero, List.set_cons_succ]
      refine wpAnyH_take (i := 10) (oi := { dst := some 79, op := Op.move (Operand.tmp 6), type := 3, pos := "outright.go:107", after := #[], guard := none }) (v := .int .i64 j) rfl (by kernel_rfl) (by kernel_rfl) (by kernel_rfl) (fun _ _ _ h => h) (Or.inl ⟨by rfl, ?_⟩) (by assumption) ?_
      · intro w hSw
        have q0 := hSw.z3
        have q1 := hSw.c0
        have q2 := hSw.c1
        go_simp
      try simp only [Act.put, List.setIfInBounds_toArray, List.set_cons_zero, List.set_cons_succ]
      refine wpAnyH_take (i := 11) (oi := { dst := some 80, op := Op.indexAddr 23 (Operand.tmp 78) (Operand.tmp 79), type := 0, pos := "outright.go:107", after := #[{ on := 9, ground := Ground.data }, { on := 10, ground := Ground.data }], guard := none }) (v := .pointer (some ⟨bt, offt + j * 2, none⟩)) rfl (by kernel_rfl) (by kernel_rfl) (by kernel_rfl) (fun _ _ _ h => h) (Or.inl ⟨by rfl, ?_⟩) (by assumption) ?_
      · intro w hSw
        have q0 := hSw.z3
        have q1 := hSw.c0
        have q2 := hSw.c1
        go_simp
      try simp only [Act.put, List.setIfInBounds_toArray, List.set_cons_zero, List.set_cons_succ]
      refine wpAnyH_take (i := 12) (oi := { dst := some 81, op := Op.fieldAddr 54 (Operand.tmp 80) 1, type := 0, pos := "outright.go:107", after := #[{ on := 11, ground := Ground.data }], guard := none }) (v := .pointer (some ⟨bt, offt + j * 2 + 1, none⟩)) rfl (by kernel_rfl) (by kernel_rfl) (by kernel_rfl) (fun _ _ _ h => h) (Or.inl ⟨by rfl, ?_⟩) (by assumption) ?_
      · intro w hSw
        have q0 := hSw.z3
        have q1 := hSw.c0
        have q2 := hSw.c1
        go_simp
      try simp only [Act.put, List.setIfInBounds_toArray, List.set_cons_zero, List.set_cons_succ]
      refine wpAnyH_take (i := 13) (oi := { dst := some 82, op := Op.load 3 (Operand.tmp 81), type := 3, pos := "outright.go:107", after := #[{ on := 12, ground := Ground.data }], guard := none }) (v := .int .i64 d) rfl (by kernel_rfl) (by kernel_rfl) (by kernel_rfl) (fun _ _ _ h => h) (Or.inl ⟨by rfl, ?_⟩) (by assumption) ?_
      · intro w hSw
        have q0 := hSw.z3
        have q1 := hSw.c0
        have q2 := hSw.c1
        go_simp
      try simp only [Act.put, List.setIfInBounds_toArray, List.set_cons_zero, List.set_cons_succ]
      refine wpAnyH_take (i := 14) (oi := { dst := some 83, op := Op.convert 3 5 (Operand.tmp 82), type := 5, pos := "outright.go:107", after := #[{ on := 13, ground := Ground.data }], guard := none }) (v := .int .u8 (d % 256)) rfl (by kernel_rfl) (by kernel_rfl) (by kernel_rfl) (fun _ _ _ h => h) (Or.inl ⟨by rfl, ?_⟩) (by assumption) ?_
      · intro w hSw
        have q0 := hSw.z3
        have q1 := hSw.c0
        have q2 := hSw.c1
        go_simp
      try simp only [Act.put, List.setIfInBounds_toArray, List.set_cons_zero, List.set_cons_succ]
      refine wpAnyH_ready (rs := [15]) (by kernel_rfl) (by simp) ?_
      refine AllReadyH.cons (o := { dst := some 84, op := Op.buildSlice 22 2 #[(0, Operand.tmp 76), (1, Operand.tmp 83)], type := 22, pos := "outright.go:107", after := #[{ on := 7, ground := Ground.data }, { on := 14, ground := Ground.data }], guard := none }) rfl ?_ ?_
      rotate_left
      · exact AllReadyH.nil
      intro K hK
      go_simp
      rw [HWW.out]
      refine hK.out _ _ HSX.out (fun hHeld => ?_)
      clear hK K
      try simp only [Act.put, List.setIfInBounds_toArray, List.set_cons_zero, List.set_cons_succ]
      refine wpAnyH_ready (rs := [16]) (by kernel_rfl) (by simp) ?_
      refine AllReadyH.cons (o := { dst := some 85, op := Op.call { callee := Callee.builtin Builtin.append, args := #[Operand.tmp 69, Operand.tmp 84], argTypes := #[22, 22] }, type := 22, pos := "outright.go:107", after := #[{ on := 0, ground := Ground.data }, { on := 15, ground := Ground.data }], guard := none }) rfl ?_ ?_
      rotate_left
      · exact AllReadyH.nil
      intro K hK
      refine step_append_bytes rfl (.tmp 69) (.tmp 84) rfl w5.heap.size _ M rfl HO4.out _ 2 2 [r % 256, d % 256] rfl rfl HBX.out HLE.out HS4.out ?_
      intro v9 w9 hown9 hg9
      have hUT := UT.grown hg9 HO4.out HS4.out
      have HO9 := Lib.hid hown9
      have HB9 := Lib.hid (HB4.out.trans hUT.below)
      have HS9 := Lib.hid (show RdS g bt offt nt ct j r d w9 from HR5.out.up HB9.out)
      clear hown9 hg9 hUT hHeld
      obtain ⟨A9, c9, hv9, -⟩ := HO9.out.form
      subst hv9
      obtain ⟨q9, hq9⟩ : ∃ q9, q9 = (M ++ [r % 256, d % 256]).length := ⟨_, rfl⟩
      rw [← hq9] at HO9 ⊢
      clear hq9
      refine hK.out _ _ HS9.out (fun hHeld => ?_)
      clear hK K
      try simp only [Act.put, List.setIfInBounds_toArray, List.set_cons_zero, List.set_cons_succ]
      refine wpAnyH_ready (rs := [17]) (by kernel_rfl) (by simp) ?_
      refine AllReadyH.cons (o := { dst := some 5, op := Op.assign (Operand.tmp 85), type := 22, pos := "outright.go:107", after := #[{ on := 16, ground := Ground.data }, { on := 16, ground := Ground.chain }, { on := 0, ground := Ground.phase }, { on := 1, ground := Ground.phase }, { on := 2, ground := Ground.phase }, { on := 3, ground := Ground.phase }, { on := 4, ground := Ground.phase }, { on := 5, ground := Ground.phase }, { on := 6, ground := Ground.phase }, { on := 7, ground := Ground.phase }, { on := 8, ground := Ground.phase }, { on := 9, ground := Ground.phase }, { on := 10, ground := Ground.phase }, { on := 11, ground := Ground.phase }, { on := 12, ground := Ground.phase }, { on := 13, ground := Ground.phase }, { on := 14, ground := Ground.phase }, { on := 15, ground := Ground.phase }, { on := 16, ground := Ground.phase }], guard := none }) rfl ?_ ?_
      rotate_left
      · exact AllReadyH.nil
      intro K hK
      go_simp
      refine hK.out _ _ HS9.out (fun hHeld => ?_)
      clear hK K
      try simp only [Act.put, List.setIfInBounds_toArray, List.set_cons_zero, List.set_cons_succ]
      clear hHeld
      refine wpAnyH_done (by kernel_rfl) ?_ _
      go_wp2_with fail
      go_roundw
      case rel => exact ⟨j + 1, M ++ [r % 256, d % 256], by go_num, by omega, HMM, HE2, HO9.out, HB9.out⟩
      case measure => simp [intOf]; omega
    · obtain rfl : j = nt := by omega
      have HE2 := Lib.hid (show M = tabB k.tabs by rw [← HE.out, List.drop_of_length_le (by have := HTW.out.len.out; omega)]; exact (List.append_nil _).symm)
      obtain ⟨A3, n3, c3, rfl, hSl⟩ := own_full HO.out
      rw [HE2.out] at hSl
      have HT3 := Lib.hid hSl
      obtain ⟨w6, rfl⟩ : ∃ u, u = wr := ⟨_, rfl⟩
      have HB6 := Lib.hid (HB5.out.trans (HB.out.mono HB5.out.size))
      have HS6 := Lib.hid (HSL5.out.up HB.out)
      have HD6 := Lib.hid (HDA.out.up HB6.out)
      have HC6 := Lib.hid (HCO.out.up HB6.out)
      clear hSl hlt HE HML HE2 HO HB HTW HTB HDA HCO HB5 HF5 HSL5 HSZ M
      go_wp2_with fail
      clear y3
      go_loopw [7, 8, 9, 86, 87, 88, 89, 90, 91, 92, 93, 94, 95, 96, 97, 98, 99, 100, 101, 102, 103, 104, 105, 106, 107, 108, 109, 110, 111, 112, 113, 114, 115, 116, 117, 118, 119, 120, 121, 122, 123, 124, 125, 126, 127, 128, 129, 130, 131, 132, 133, 134, 135, 136, 137, 138, 139, 140, 141, 142, 143, 144, 145, 146, 147, 148, 149, 150, 151, 152, 153, 154, 155, 156, 157, 158, 159, 160, 161, 162, 163, 164] (fun a7 a8 _ _ _ _ _ _ _ _ _ _ _ _ _ _ _ _ _ _ _ _ _ _ _ _ _ _ _ _ _ _ _ _ _ _ _ _ _ _ _ _ _ _ _ _ _ _ _ _ _ _ _ _ _ _ _ _ _ _ _ _ _ _ _ _ _ _ _ _ _ _ _ _ _ _ _ _ _ _ _ _ wq => ∃ (j p : Nat), a8 = .int .i64 j ∧ a7 = .int .i64 p ∧ j ≤ 3 ∧ p ≤ n ∧ Hid ((encW k).drop p = Rst k j) ∧ Below w6.heap.size w6 wq) (fun _ a8 _ _ _ _ _ _ _ _ _ _ _ _ _ _ _ _ _ _ _ _ _ _ _ _ _ _ _ _ _ _ _ _ _ _ _ _ _ _ _ _ _ _ _ _ _ _ _ _ _ _ _ _ _ _ _ _ _ _ _ _ _ _ _ _ _ _ _ _ _ _ _ _ _ _ _ _ _ _ _ _ _ => (3 - intOf a8).toNat)
      case atStart => exact ⟨0, 12, rfl, rfl, by decide, by omega, Lib.hid (enc_tail k), Below.refl _ _⟩
      case round =>
        obtain ⟨j, p, rfl, rfl, hj3, hpn, HDR, hB⟩ := hrel
        have HB := Lib.hid hB
        have HSR := Lib.hid (HS6.out.up HB.out)
        have HFQ := Lib.hid (HFR.out.up HB.out)
        have HBQ := Lib.hid (HB6.out.trans (HB.out.mono HB6.out.size))
        have y2 : wr.cell? ⟨g, 2, none⟩ = some (.slice Ad nd cd) := by rw [HFQ.out.cell 2 (by decide), HX.out]; rfl
        have y4 : wr.cell? ⟨g, 4, none⟩ = some (.slice Ac nc cc) := by rw [HFQ.out.cell 4 (by decide), HX.out]; rfl
        clear hB
        by_cases hlt : j < 3
        case neg =>
          obtain rfl : j = 3 := by omega
          have tq : ((n : Int) == (p : Int) + 4) = true := by
            have h1 := congrArg List.length HDR.out
            rw [List.length_drop, rst_len, HSR.out.len.out] at h1
            rw [beq_iff_eq]
            omega
          clear hlt y2 y4
          go_wp2_with fail
          go_ret
          exact ⟨rfl, HBQ.out⟩
        rcases (show j = 0 ∨ j = 1 ∨ j = 2 by omega) with rfl | rfl | rfl
        · have HPL := Lib.hid (show (Prt k 0).length = n3 from HT3.out.len.out)
          by_cases h0 : n3 = 0
          · have t0 : ((n3 : Int) == 0) = true := by rw [beq_iff_eq]; omega
            have HN2 := Lib.hid (show (encW k).drop p = Rst k 1 by rw [HDR.out]; exact rst_none (by decide) (List.eq_nil_of_length_eq_zero (by rw [HPL.out]; exact h0)))
            clear h0 HDR
            go_upto_region 18 with (refine wpList_index_arr rfl 55 _ _ rfl (.slice A3 n3 c3) (by kernel_rfl) ?_)
            clear y2 y4
            go_wp2_with fail
            go_roundw
            case rel => exact ⟨1, p, by go_num, rfl, by decide, hpn, HN2, HB.out⟩
            case measure => simp [intOf]
          · have t0 : ((n3 : Int) == 0) = false := by rw [beq_eq_false_iff_ne]; omega
            have hsm := rst_some (k := k) (j := 0) (by decide) (fun e => by rw [e] at HPL; exact h0 HPL.out.symm)
            rw [HPL.out] at hsm
            obtain ⟨g0, g1, g2, g3, g4, g5⟩ := at_sec (HDR.out.trans hsm)
            rw [HPL.out, HSR.out.len.out] at g5
            have HN2 := Lib.hid (show (encW k).drop (p + 4 + n3) = Rst k 1 by rw [← List.drop_drop, g4, ← HPL.out, List.drop_left])
            obtain ⟨x1, hx1⟩ : ∃ x : Int, x = (n3 : Int) % 256 := ⟨_, rfl⟩
            obtain ⟨x2, hx2⟩ : ∃ x : Int, x = (n3 : Int) / 256 % 256 := ⟨_, rfl⟩
            obtain ⟨x3, hx3⟩ : ∃ x : Int, x = (n3 : Int) / 256 / 256 % 256 := ⟨_, rfl⟩
            obtain ⟨b', off', eo, -, hcell⟩ := HSR.out.byt (by rw [HSR.out.len.out]; omega)
            injection eo with eo
            injection eo with eo1 eo2
            subst eo1 eo2
            have hl := HSR.out.len.out
            have f0 : wr.cell? ⟨b, off + p, none⟩ = some (.int .u8 2) := by rw [hcell p (by omega), g0]; rfl
            have f1 : wr.cell? ⟨b, off + (p + 1), none⟩ = some (.int .u8 x1) := by rw [hcell (p + 1) (by omega), g1, hx1]; rfl
            have f2 : wr.cell? ⟨b, off + (p + 2), none⟩ = some (.int .u8 x2) := by rw [hcell (p + 2) (by omega), g2, hx2]; rfl
            have f3 : wr.cell? ⟨b, off + (p + 3), none⟩ = some (.int .u8 x3) := by rw [hcell (p + 3) (by omega), g3, hx3]; rfl
            have r1 : 0 ≤ x1 := by omega
            have r1' : x1 < 256 := by omega
            have r2 : 0 ≤ x2 := by omega
            have r2' : x2 < 256 := by omega
            have r3 : 0 ≤ x3 := by omega
            have r3' : x3 < 256 := by omega
            have hp1 : p ≤ 131072 := by omega
            have hp2 : n3 ≤ 131072 := by omega
            have tn : ((x1 + 256 * x2 + 65536 * x3 : Int) != n3) = false := by rw [show x1 + 256 * x2 + 65536 * x3 = (n3 : Int) by omega]; simp
            have tg : decide ((n : Int) < (p : Int) + 4 + n3) = false := decide_eq_false (by omega)
            have k0 : (p : Int) < n := by omega
            have k1 : (p : Int) + 1 < n := by omega
            have k2 : (p : Int) + 2 < n := by omega
            have k3 : (p : Int) + 3 < n := by omega
            have m1 : (0 : Int) ≤ (p : Int) + 1 := by omega
            have m2 : (0 : Int) ≤ (p : Int) + 2 := by omega
            have m3 : (0 : Int) ≤ (p : Int) + 3 := by omega
            have m4 : (0 : Int) ≤ (p : Int) + 4 := by omega
            have m5 : (p : Int) + 4 ≤ (p : Int) + 4 + n3 := by omega
            have m6 : (p : Int) + 4 + n3 ≤ c := by omega
            have m7 : ¬ (c = p + 4) := by omega
            have m8 : p + 4 + n3 - (p + 4) = n3 := by omega
            have m9 : (0 : Int) ≤ (p : Int) + 4 + n3 := by omega
            have e1 : ((p : Int) + 1).toNat = p + 1 := by omega
            have e2 : ((p : Int) + 2).toNat = p + 2 := by omega
            have e3 : ((p : Int) + 3).toNat = p + 3 := by omega
            have e4 : ((p : Int) + 4).toNat = p + 4 := by omega
            have e5 : ((p : Int) + 4 + n3).toNat = p + 4 + n3 := by omega
            have HSB := Lib.hid (fun (W : World) (m : Nat) (hW : W = wr.drewN m) => (sameBytes_any W (some ⟨b, off + (p + 4), none⟩) n3 (c - (p + 4)) A3 n3 c3 (Prt k 0) (Prt k 0) HPL.out HPL.out (by
              rw [hW]
              exact bytes_part (p := p + 4) (m := n3) (HSR.out.up (below_drewN (Below.refl _ _) m)).byt (by rw [g4, ← HPL.out, List.take_left]) (by rw [hl]; omega)) (by
              rw [hW]
              exact ((HT3.out.up HB.out).up (below_drewN (Below.refl _ _) m)).byt) (tabB_bytes _) (tabB_bytes _)).mono fun _ _ h => (⟨h.1, h.2.symm⟩ : _ ∧ _))
            rw [decide_eq_true rfl] at HSB
            have HNN := Lib.hid (show p + 4 + n3 ≤ n by omega)
            clear hsm g0 g1 g2 g3 g4 g5 hx1 hx2 hx3 hcell h0 HDR
            go_upto_region 18 with (refine wpList_index_arr rfl 55 _ _ rfl (.slice A3 n3 c3) (by kernel_rfl) ?_)
            clear y2 y4
            go_upto_region 19 with fail
            go_quiet ((go_at_call 17; exact Calls.quiet_of_same (HSB.out _ _ rfl)))
            obtain ⟨w7, hw7⟩ : ∃ u, u = wr.drewN nq := ⟨_, rfl⟩
            have HB7 := Lib.hid (show Below w6.heap.size w6 w7 by rw [hw7]; exact below_drewN HB.out nq)
            rw [← hw7]
            clear hw7 HSB f0 f1 f2 f3 HSR HFQ HBQ
            go_wp2_with fail
            go_roundw
            case rel => exact ⟨1, p + 4 + n3, by go_num, by go_num, by decide, HNN.out, HN2, HB7.out⟩
            case measure => simp [intOf]
        · have HPL := Lib.hid (show (Prt k 1).length = nd from HD6.out.len.out)
          by_cases h0 : nd = 0
          · have t0 : ((nd : Int) == 0) = true := by rw [beq_iff_eq]; omega
            have HN2 := Lib.hid (show (encW k).drop p = Rst k 2 by rw [HDR.out]; exact rst_none (by decide) (List.eq_nil_of_length_eq_zero (by rw [HPL.out]; exact h0)))
            clear h0 HDR
            go_upto_region 18 with (refine wpList_index_arr rfl 55 _ _ rfl (.slice Ad nd cd) (by kernel_rfl) ?_)
            clear y2 y4
            go_wp2_with fail
            go_roundw
            case rel => exact ⟨2, p, by go_num, rfl, by decide, hpn, HN2, HB.out⟩
            case measure => simp [intOf]
          · have t0 : ((nd : Int) == 0) = false := by rw [beq_eq_false_iff_ne]; omega
            have hsm := rst_some (k := k) (j := 1) (by decide) (fun e => by rw [e] at HPL; exact h0 HPL.out.symm)
            rw [HPL.out] at hsm
            obtain ⟨g0, g1, g2, g3, g4, g5⟩ := at_sec (HDR.out.trans hsm)
            rw [HPL.out, HSR.out.len.out] at g5
            have HN2 := Lib.hid (show (encW k).drop (p + 4 + nd) = Rst k 2 by rw [← List.drop_drop, g4, ← HPL.out, List.drop_left])
            obtain ⟨x1, hx1⟩ : ∃ x : Int, x = (nd : Int) % 256 := ⟨_, rfl⟩
            obtain ⟨x2, hx2⟩ : ∃ x : Int, x = (nd : Int) / 256 % 256 := ⟨_, rfl⟩
            obtain ⟨x3, hx3⟩ : ∃ x : Int, x = (nd : Int) / 256 / 256 % 256 := ⟨_, rfl⟩
            obtain ⟨b', off', eo, -, hcell⟩ := HSR.out.byt (by rw [HSR.out.len.out]; omega)
            injection eo with eo
            injection eo with eo1 eo2
            subst eo1 eo2
            have hl := HSR.out.len.out
            have f0 : wr.cell? ⟨b, off + p, none⟩ = some (.int .u8 3) := by rw [hcell p (by omega), g0]; rfl
            have f1 : wr.cell? ⟨b, off + (p + 1), none⟩ = some (.int .u8 x1) := by rw [hcell (p + 1) (by omega), g1, hx1]; rfl
            have f2 : wr.cell? ⟨b, off + (p + 2), none⟩ = some (.int .u8 x2) := by rw [hcell (p + 2) (by omega), g2, hx2]; rfl
            have f3 : wr.cell? ⟨b, off + (p + 3), none⟩ = some (.int .u8 x3) := by rw [hcell (p + 3) (by omega), g3, hx3]; rfl
            have r1 : 0 ≤ x1 := by omega
            have r1' : x1 < 256 := by omega
            have r2 : 0 ≤ x2 := by omega
            have r2' : x2 < 256 := by omega
            have r3 : 0 ≤ x3 := by omega
            have r3' : x3 < 256 := by omega
            have hp1 : p ≤ 131072 := by omega
            have hp2 : nd ≤ 131072 := by omega
            have tn : ((x1 + 256 * x2 + 65536 * x3 : Int) != nd) = false := by rw [show x1 + 256 * x2 + 65536 * x3 = (nd : Int) by omega]; simp
            have tg : decide ((n : Int) < (p : Int) + 4 + nd) = false := decide_eq_false (by omega)
            have k0 : (p : Int) < n := by omega
            have k1 : (p : Int) + 1 < n := by omega
            have k2 : (p : Int) + 2 < n := by omega
            have k3 : (p : Int) + 3 < n := by omega
            have m1 : (0 : Int) ≤ (p : Int) + 1 := by omega
            have m2 : (0 : Int) ≤ (p : Int) + 2 := by omega
            have m3 : (0 : Int) ≤ (p : Int) + 3 := by omega
            have m4 : (0 : Int) ≤ (p : Int) + 4 := by omega
            have m5 : (p : Int) + 4 ≤ (p : Int) + 4 + nd := by omega
            have m6 : (p : Int) + 4 + nd ≤ c := by omega
            have m7 : ¬ (c = p + 4) := by omega
            have m8 : p + 4 + nd - (p + 4) = nd := by omega
            have m9 : (0 : Int) ≤ (p : Int) + 4 + nd := by omega
            have e1 : ((p : Int) + 1).toNat = p + 1 := by omega
            have e2 : ((p : Int) + 2).toNat = p + 2 := by omega
            have e3 : ((p : Int) + 3).toNat = p + 3 := by omega
            have e4 : ((p : Int) + 4).toNat = p + 4 := by omega
            have e5 : ((p : Int) + 4 + nd).toNat = p + 4 + nd := by omega
            have HSB := Lib.hid (fun (W : World) (m : Nat) (hW : W = wr.drewN m) => (sameBytes_any W (some ⟨b, off + (p + 4), none⟩) nd (c - (p + 4)) Ad nd cd (Prt k 1) (Prt k 1) HPL.out HPL.out (by
              rw [hW]
              exact bytes_part (p := p + 4) (m := nd) (HSR.out.up (below_drewN (Below.refl _ _) m)).byt (by rw [g4, ← HPL.out, List.take_left]) (by rw [hl]; omega)) (by
              rw [hW]
              exact ((HD6.out.up HB.out).up (below_drewN (Below.refl _ _) m)).byt) HS.out.bd HS.out.bd).mono fun _ _ h => (⟨h.1, h.2.symm⟩ : _ ∧ _))
            rw [decide_eq_true rfl] at HSB
            have HNN := Lib.hid (show p + 4 + nd ≤ n by omega)
            clear hsm g0 g1 g2 g3 g4 g5 hx1 hx2 hx3 hcell h0 HDR
            go_upto_region 18 with (refine wpList_index_arr rfl 55 _ _ rfl (.slice Ad nd cd) (by kernel_rfl) ?_)
            clear y2 y4
            go_upto_region 19 with fail
            go_quiet ((go_at_call 17; exact Calls.quiet_of_same (HSB.out _ _ rfl)))
            obtain ⟨w7, hw7⟩ : ∃ u, u = wr.drewN nq := ⟨_, rfl⟩
            have HB7 := Lib.hid (show Below w6.heap.size w6 w7 by rw [hw7]; exact below_drewN HB.out nq)
            rw [← hw7]
            clear hw7 HSB f0 f1 f2 f3 HSR HFQ HBQ
            go_wp2_with fail
            go_roundw
            case rel => exact ⟨2, p + 4 + nd, by go_num, by go_num, by decide, HNN.out, HN2, HB7.out⟩
            case measure => simp [intOf]
        · have HPL := Lib.hid (show (Prt k 2).length = nc from HC6.out.len.out)
          by_cases h0 : nc = 0
          · have t0 : ((nc : Int) == 0) = true := by rw [beq_iff_eq]; omega
            have HN2 := Lib.hid (show (encW k).drop p = Rst k 3 by rw [HDR.out]; exact rst_none (by decide) (List.eq_nil_of_length_eq_zero (by rw [HPL.out]; exact h0)))
            clear h0 HDR
            go_upto_region 18 with (refine wpList_index_arr rfl 55 _ _ rfl (.slice Ac nc cc) (by kernel_rfl) ?_)
            clear y2 y4
            go_wp2_with fail
            go_roundw
            case rel => exact ⟨3, p, by go_num, rfl, by decide, hpn, HN2, HB.out⟩
            case measure => simp [intOf]
          · have t0 : ((nc : Int) == 0) = false := by rw [beq_eq_false_iff_ne]; omega
            have hsm := rst_some (k := k) (j := 2) (by decide) (fun e => by rw [e] at HPL; exact h0 HPL.out.symm)
            rw [HPL.out] at hsm
            obtain ⟨g0, g1, g2, g3, g4, g5⟩ := at_sec (HDR.out.trans hsm)
            rw [HPL.out, HSR.out.len.out] at g5
            have HN2 := Lib.hid (show (encW k).drop (p + 4 + nc) = Rst k 3 by rw [← List.drop_drop, g4, ← HPL.out, List.drop_left])
            obtain ⟨x1, hx1⟩ : ∃ x : Int, x = (nc : Int) % 256 := ⟨_, rfl⟩
            obtain ⟨x2, hx2⟩ : ∃ x : Int, x = (nc : Int) / 256 % 256 := ⟨_, rfl⟩
            obtain ⟨x3, hx3⟩ : ∃ x : Int, x = (nc : Int) / 256 / 256 % 256 := ⟨_, rfl⟩
            obtain ⟨b', off', eo, -, hcell⟩ := HSR.out.byt (by rw [HSR.out.len.out]; omega)
            injection eo with eo
            injection eo with eo1 eo2
            subst eo1 eo2
            have hl := HSR.out.len.out
            have f0 : wr.cell? ⟨b, off + p, none⟩ = some (.int .u8 4) := by rw [hcell p (by omega), g0]; rfl
            have f1 : wr.cell? ⟨b, off + (p + 1), none⟩ = some (.int .u8 x1) := by rw [hcell (p + 1) (by omega), g1, hx1]; rfl
            have f2 : wr.cell? ⟨b, off + (p + 2), none⟩ = some (.int .u8 x2) := by rw [hcell (p + 2) (by omega), g2, hx2]; rfl
            have f3 : wr.cell? ⟨b, off + (p + 3), none⟩ = some (.int .u8 x3) := by rw [hcell (p + 3) (by omega), g3, hx3]; rfl
            have r1 : 0 ≤ x1 := by omega
            have r1' : x1 < 256 := by omega
            have r2 : 0 ≤ x2 := by omega
            have r2' : x2 < 256 := by omega
            have r3 : 0 ≤ x3 := by omega
            have r3' : x3 < 256 := by omega
            have hp1 : p ≤ 131072 := by omega
            have hp2 : nc ≤ 131072 := by omega
            have tn : ((x1 + 256 * x2 + 65536 * x3 : Int) != nc) = false := by rw [show x1 + 256 * x2 + 65536 * x3 = (nc : Int) by omega]; simp
            have tg : decide ((n : Int) < (p : Int) + 4 + nc) = false := decide_eq_false (by omega)
            have k0 : (p : Int) < n := by omega
            have k1 : (p : Int) + 1 < n := by omega
            have k2 : (p : Int) + 2 < n := by omega
            have k3 : (p : Int) + 3 < n := by omega
            have m1 : (0 : Int) ≤ (p : Int) + 1 := by omega
            have m2 : (0 : Int) ≤ (p : Int) + 2 := by omega
            have m3 : (0 : Int) ≤ (p : Int) + 3 := by omega
            have m4 : (0 : Int) ≤ (p : Int) + 4 := by omega
            have m5 : (p : Int) + 4 ≤ (p : Int) + 4 + nc := by omega
            have m6 : (p : Int) + 4 + nc ≤ c := by omega
            have m7 : ¬ (c = p + 4) := by omega
            have m8 : p + 4 + nc - (p + 4) = nc := by omega
            have m9 : (0 : Int) ≤ (p : Int) + 4 + nc := by omega
            have e1 : ((p : Int) + 1).toNat = p + 1 := by omega
            have e2 : ((p : Int) + 2).toNat = p + 2 := by omega
            have e3 : ((p : Int) + 3).toNat = p + 3 := by omega
            have e4 : ((p : Int) + 4).toNat = p + 4 := by omega
            have e5 : ((p : Int) + 4 + nc).toNat = p + 4 + nc := by omega
            have HSB := Lib.hid (fun (W : World) (m : Nat) (hW : W = wr.drewN m) => (sameBytes_any W (some ⟨b, off + (p + 4), none⟩) nc (c - (p + 4)) Ac nc cc (Prt k 2) (Prt k 2) HPL.out HPL.out (by
              rw [hW]
              exact bytes_part (p := p + 4) (m := nc) (HSR.out.up (below_drewN (Below.refl _ _) m)).byt (by rw [g4, ← HPL.out, List.take_left]) (by rw [hl]; omega)) (by
              rw [hW]
              exact ((HC6.out.up HB.out).up (below_drewN (Below.refl _ _) m)).byt) HS.out.bc HS.out.bc).mono fun _ _ h => (⟨h.1, h.2.symm⟩ : _ ∧ _))
            rw [decide_eq_true rfl] at HSB
            have HNN := Lib.hid (show p + 4 + nc ≤ n by omega)
            clear hsm g0 g1 g2 g3 g4 g5 hx1 hx2 hx3 hcell h0 HDR
            go_upto_region 18 with (refine wpList_index_arr rfl 55 _ _ rfl (.slice Ac nc cc) (by kernel_rfl) ?_)
            clear y2 y4
            go_upto_region 19 with fail
            go_quiet ((go_at_call 17; exact Calls.quiet_of_same (HSB.out _ _ rfl)))
            obtain ⟨w7, hw7⟩ : ∃ u, u = wr.drewN nq := ⟨_, rfl⟩
            have HB7 := Lib.hid (show Below w6.heap.size w6 w7 by rw [hw7]; exact below_drewN HB.out nq)
            rw [← hw7]
            clear hw7 HSB f0 f1 f2 f3 HSR HFQ HBQ
            go_wp2_with fail
            go_roundw
            case rel => exact ⟨3, p + 4 + nc, by go_num, by go_num, by decide, HNN.out, HN2, HB7.out⟩
            case measure => simp [intOf]
end Go.Proofs.Ytmihdhceicmnlaa.Pak
